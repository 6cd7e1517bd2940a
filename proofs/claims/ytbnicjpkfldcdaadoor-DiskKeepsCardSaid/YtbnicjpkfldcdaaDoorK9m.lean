/- DiskKeeps: reads, what lies in memory while it goes. -/
import Derived.Test.YtbnicjpkfldcdaaDoorK9k
namespace Go.Proofs.YtbnicjpkfldcdaaDoor
open Go.RowKit Go.Lib

/-- What is read of a name. -/
def fE (P : List PF) (t : List UInt8) : LE := ⟨S t, S (dataP (S t) P), S (dataP (S t) P)⟩
def freshL (P : List PF) (Ts : List (List UInt8)) : List LE := Ts.map (fE P)
theorem fresh_step {P : List PF} {Ts : List (List UInt8)} {k : Nat} (hk : k < Ts.length) : freshL P (Ts.take (k + 1)) = freshL P (Ts.take k) ++ [fE P (Ts.getD k [])] := by
  unfold freshL
  rw [List.take_add_one, getD_some hk, List.map_append]
  rfl
theorem fresh_len {P : List PF} {Ts : List (List UInt8)} {k n : Nat} (h : Ts.length ≤ n) : (freshL P (Ts.take k)).length ≤ n := by
  unfold freshL
  rw [List.length_map, List.length_take]
  omega
theorem S_inj {a b : List UInt8} (h : S a = S b) : a = b := by rw [← L_S a, ← L_S b, h]
theorem fresh_none {P : List PF} {Ts : List (List UInt8)} (hn : Ts.Nodup) {k : Nat} (hk : k < Ts.length) : idxL (S (Ts.getD k [])) (freshL P (Ts.take k)) = none := by
  unfold idxL
  rw [List.findIdx?_eq_none_iff]
  intro e he
  obtain ⟨t, ht, rfl⟩ := List.mem_map.1 he
  rw [decide_eq_false_iff_not]
  intro e2
  have e3 : t = Ts.getD k [] := S_inj e2
  obtain ⟨j, hj, hjt⟩ := List.getElem_of_mem ht
  rw [List.length_take] at hj
  rw [List.getElem_take] at hjt
  have e4 : Ts[j]? = Ts[k]? := by
    rw [getD_some hk, ← e3, List.getElem?_eq_getElem (by omega), hjt]
  have := (List.getElem?_inj (by omega) hn).1 e4
  omega
theorem name_file {P : List PF} {Ts : List (List UInt8)} (hp : Ts.Perm (P.map fun p => L p.name)) {k : Nat} (hk : k < Ts.length) : ∃ p, p ∈ P ∧ p.name = S (Ts.getD k []) := by
  have h1 : Ts.getD k [] ∈ Ts := List.mem_of_getElem? (getD_some hk)
  obtain ⟨p, hm, e⟩ := List.mem_map.1 (hp.mem_iff.1 h1)
  exact ⟨p, hm, by rw [← e]; rfl⟩
theorem fE_file {P : List PF} (hn : (P.map PF.name).Nodup) {p : PF} (hp : p ∈ P) {t : List UInt8} (e : p.name = S t) : fE P t = freshE p := by
  unfold fE freshE
  rw [← e, dataP_mem hn hp]
theorem fresh_perm {P : List PF} (hn : (P.map PF.name).Nodup) {Ts : List (List UInt8)} (hp : Ts.Perm (P.map fun p => L p.name)) : (freshL P Ts).Perm (P.map freshE) := by
  unfold freshL
  refine (hp.map _).trans (List.Perm.of_eq ?_)
  rw [List.map_map]
  exact List.map_congr_left (fun p h => fE_file hn h rfl)
/-- fresh knows every file. -/
theorem fresh_has {P : List PF} (hn : (P.map PF.name).Nodup) {Ts : List (List UInt8)} (hp : Ts.Perm (P.map fun p => L p.name)) {p : PF} (h : p ∈ P) : ∃ i, idxL p.name (freshL P Ts) = some i := by
  cases e : idxL p.name (freshL P Ts) with
  | some i => exact ⟨i, rfl⟩
  | none =>
    exact absurd rfl (idxL_none e (freshE p) ((fresh_perm hn hp).mem_iff.2 (List.mem_map.2 ⟨p, h, rfl⟩)))
/-- What reads has beside the disk and fresh: the act, the names, b's own log. -/
structure Rd (B bp ab : Nat) (q : ActR) (Ts : List (List UInt8)) (v : Value) (G : List LE) (X : World) : Prop where
  act : X.heap[ab]? = some (.cells q.cells 35 (0, 0))
  row : RowIn X Ts v
  log : ∃ vn va vs, LogAt B bp vn va vs G X
theorem Rd.drew {B bp ab : Nat} {q : ActR} {Ts : List (List UInt8)} {v : Value} {G : List LE} {X : World} (h : Rd B bp ab q Ts v G X) : Rd B bp ab q Ts v G X.drew := by
  obtain ⟨vn, va, vs, hL⟩ := h.log
  exact ⟨h.act, h.row.on (Below.refl _ _).drew, vn, va, vs, hL.drew⟩
/-- Behind box, Names and the new log. -/
theorem reads_open {A : Whys} {w0 w : World} {d bp : Nat} {T : DS} {P : List PF} {G : List LE} {K : List (Nat × Obj)} (h : KD A w0 d bp T P G K w) (hP : P.length ≤ 1000000) (q : ActR) {W : World} (hW : w.alloc (.cells q.cells 35) = W) :
    ∃ (KG : List (Nat × Obj)) (BG : Nat → Prop), (∀ x, x ∈ K → ¬ BG x.1) ∧ BG bp ∧ (∃ cs t fz, (bp, Obj.cells cs t fz) ∈ KG) ∧
      Calls Tryd.prog 28 #[.pointer (some ⟨d, 0, none⟩)] W fun e w2 => ∃ (v : Value) (Ts : List (List UInt8)) (K2 : List (Nat × Obj)), e = .returned v ∧ Ts.Perm (P.map fun p => L p.name) ∧ (∀ x, x ∈ KG ++ K → x ∈ K2) ∧
        KD A w0 d w2.heap.size T P [] K2 (w2.alloc (.cells #[.slice none 0 0, .slice none 0 0, .slice none 0 0] 32)) ∧
        ∀ X, (∀ x, x ∈ K2 → X.heap[x.1]? = some x.2) → Rd w0.heap.size bp w.heap.size q Ts v G X := by
  have hbx : Below w.heap.size w W := by rw [← hW]; exact (Below.refl _ _).alloc (Nat.le_refl _) _
  have hob : W.heap[w.heap.size]? = some (.cells q.cells 35 (0, 0)) := by rw [← hW]; exact heap_alloc_new w _
  obtain ⟨KG, BG, hD, hbp, h1, _, _, h3, h4, _⟩ := h.disk
  obtain ⟨cs, t, fz, hkg, _⟩ := h3 bp hbp
  refine ⟨KG, BG, h1, hbp, ⟨cs, t, fz, hkg⟩, ?_⟩
  have hD1 := hD.keep hbx (Nat.le_refl _) hob
  refine (NamesK hD1 hP).mono ?_
  rintro e w2 ⟨v, Ts, K2, rfl, hp, _, hD2, hrow, hb2, hsub⟩
  refine ⟨v, Ts, K2, rfl, hp, fun x hx => hsub x (List.mem_cons_of_mem _ hx), hD2.newlog, fun X hX => ⟨hX _ (hsub _ List.mem_cons_self), ?_, h4 X (fun x hx => hX x (hsub x (List.mem_cons_of_mem _ (List.mem_append_left _ hx))))⟩⟩
  obtain ⟨a, cap, hv, hr⟩ := hrow
  refine ⟨a, cap, hv, ?_⟩
  rcases hr with hr | ⟨g, o, ha, hg, hc⟩
  · exact .inl hr
  · exact .inr ⟨g, ha, hc X (hX _ hg)⟩
end Go.Proofs.YtbnicjpkfldcdaaDoor

/- DiskKeeps: *b = fresh. -/
namespace Go.Proofs.YtbnicjpkfldcdaaDoor
open Go.RowKit Go.Lib

theorem KD.self {A : Whys} {w0 X : World} {d bf : Nat} {T : DS} {P : List PF} {G : List LE} {K : List (Nat × Obj)} (h : KD A w0 d bf T P G K X) : ∃ vn va vs, X.heap[bf]? = some (.cells #[vn, va, vs] 32 (0, 0)) := by
  obtain ⟨vn, va, vs, hL, _⟩ := h.log
  exact ⟨vn, va, vs, hL.self⟩
/-- The log's three rows are laid at another block that was kept. -/
theorem KD.moved {A : Whys} {w0 X W : World} {d bp bf : Nat} {T : DS} {P : List PF} {G : List LE} {K2 K : List (Nat × Obj)} (h : KD A w0 d bf T P G K2 X) {o : Obj} (hm : (bp, o) ∈ K2) (hlo : w0.heap.size ≤ bp) {vn va vs : Value} (hv : X.heap[bf]? = some (.cells #[vn, va, vs] 32 (0, 0))) (hW : W.heap[bp]? = some (.cells #[vn, va, vs] 32 (0, 0)))
    (hs : ∀ b, b ≠ bp → b < X.heap.size → W.heap[b]? = X.heap[b]?) (hz : X.heap.size ≤ W.heap.size) (hos : W.os = X.os ∧ W.tape = X.tape ∧ W.output = X.output) (hK : ∀ x, x ∈ K → x ∈ K2 ∧ x.1 ≠ bp) : KD A w0 d bp T P G K W := by
  obtain ⟨m, sv, clk, F, vn', va', vs', h1, rfl, hb, he, h2, hd, hk⟩ := h
  have e := h2.self
  rw [hv] at e
  injection Option.some.inj e with e1 _ _
  have e2 : [vn, va, vs] = [vn', va', vs'] := congrArg Array.toList e1
  injection e2 with e3 e4
  injection e4 with e5 e6
  injection e6 with e7 _
  subst e3 e5 e7
  obtain ⟨_, p1, p2⟩ := hk _ hm
  have pn : vn.ownBlock ≠ some bp := fun x => p2 (mem_fpG_n x)
  have pa : va.ownBlock ≠ some bp := fun x => p2 (mem_fpG_a x)
  have ps : vs.ownBlock ≠ some bp := fun x => p2 (mem_fpG_s x)
  have hbb : Below w0.heap.size X W := ⟨hos.1, hos.2.1, hos.2.2, hz, fun b hlt => hs b (by omega) (Nat.lt_of_lt_of_le hlt hb.size)⟩
  have hsame : ∀ b, b ∈ fpG bp vn va vs → b = bp ∨ b ∈ fpG bf vn va vs := by
    intro b hb'
    simp only [fpG, List.mem_cons, List.mem_append, Option.mem_toList] at hb' ⊢
    rcases hb' with e | e
    · exact .inl e
    · exact .inr (.inr e)
  refine ⟨m, sv, clk, F, vn, va, vs, h1.same hz (fun b hm' => hs b (fun x => p1 (x ▸ hm')) (h1.lt hm')), rfl, hb.trans hbb, he.below hbb, ⟨hW, ?_, ?_, ?_, ⟨pn, pa, ps, h2.apart.x01, h2.apart.x02, h2.apart.x12⟩, hlo⟩, fun b hb' hf => ?_, fun x hx => ?_⟩
  · exact ownsRow_same h2.rn (fun b x => hs b (fun y => pn (y ▸ x)) (h2.rn.lt b x).2)
  · exact ownsRow_same h2.ra (fun b x => hs b (fun y => pa (y ▸ x)) (h2.ra.lt b x).2)
  · exact ownsRow_same h2.rs (fun b x => hs b (fun y => ps (y ▸ x)) (h2.rs.lt b x).2)
  · rcases hsame b hb' with rfl | x
    · exact p1 hf
    · exact hd b x hf
  · obtain ⟨q1, q2⟩ := hK x hx
    obtain ⟨r1, r2, r3⟩ := hk x q1
    refine ⟨by rw [hs _ q2 (lt_of_heap r1)]; exact r1, r2, fun y => ?_⟩
    rcases hsame _ y with z | z
    · exact q2 z
    · exact r3 z
end Go.Proofs.YtbnicjpkfldcdaaDoor
