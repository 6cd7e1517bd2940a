/- postbaglaw9's called on both disks: an operation. -/
import Derived.Test.YtgafomknpdnfcaaGreatDoorM9e
import Derived.Test.YtgafomknpdnfcaaGreatDoorR9q
import Derived.Test.YtgafomknpdnfcaaGreatDoorR9t
import Derived.Test.YtgafomknpdnfcaaGreatDoorD9fd
namespace Go.Proofs.YtgafomknpdnfcaaGreatDoor
open Go.RowKit Go.Lib

/-- A slice of files hangs on its own block. -/
theorem FsAt.kept {w w' : World} {v : Value} {l : List PF} (h : FsAt w v l) (hs : ∀ b, v.ownBlock = some b → ∃ o, w.heap[b]? = some o ∧ w'.heap[b]? = some o) : FsAt w' v l := by
  rcases h with h | ⟨g, cap, rfl, hg, hc⟩
  · exact .inl h
  · obtain ⟨o, h1, h2⟩ := hs g rfl
    have e : w'.heap[g]? = w.heap[g]? := by rw [h1, h2]
    refine .inr ⟨g, cap, rfl, lt_of_heap h2, fun i p hp => ?_⟩
    obtain ⟨k1, k2, k3⟩ := hc i p hp
    exact ⟨by rw [World.cell?_of_block e]; exact k1, by rw [World.cell?_of_block e]; exact k2, by rw [World.cell?_of_block e]; exact k3⟩
theorem StopsAt.kept {w w' : World} {v : Value} {l : List (Int × Int × Int)} (h : StopsAt w v l) (hs : ∀ b, svBlk v = some b → ∃ o, w.heap[b]? = some o ∧ w'.heap[b]? = some o) : StopsAt w' v l :=
  h.same (fun b hb => by obtain ⟨o, h1, h2⟩ := hs b hb; rw [h1, h2])
/-- The document's disk, in blocks that are kept. -/
structure Rf (K : List (Nat × Obj)) (fv sv : Value) (l : List PF) (rs : List (Int × Int × Int)) (w : World) : Prop where
  fs : FsAt w fv l
  ss : StopsAt w sv rs
  fk : ∀ b, fv.ownBlock = some b → ∃ o, (b, o) ∈ K
  sk : ∀ b, svBlk sv = some b → ∃ o, (b, o) ∈ K
theorem Rf.go {A : Whys} {w0 w w' : World} {d d' : Nat} {S S' : DS} {P P' : List PF} {K K' : List (Nat × Obj)} {fv sv : Value} {l : List PF} {rs : List (Int × Int × Int)} (h : Rf K fv sv l rs w) (hD : Dk A w0 d S P K w) (hD' : Dk A w0 d' S' P' K' w') (hK : ∀ x, x ∈ K → x ∈ K') : Rf K' fv sv l rs w' :=
  ⟨h.fs.kept (fun b hb => by obtain ⟨o, ho⟩ := h.fk b hb; exact ⟨o, hD.kept ho, hD'.kept (hK _ ho)⟩), h.ss.kept (fun b hb => by obtain ⟨o, ho⟩ := h.sk b hb; exact ⟨o, hD.kept ho, hD'.kept (hK _ ho)⟩), fun b hb => by obtain ⟨o, ho⟩ := h.fk b hb; exact ⟨o, hK _ ho⟩, fun b hb => by obtain ⟨o, ho⟩ := h.sk b hb; exact ⟨o, hK _ ho⟩⟩
/-- The blocks that called lays: the document's disk, the act, the result. -/
structure CalG (w : World) (fa : Option Addr) (fl fc : Nat) (qu st : Int) (sa : Option Addr) (sl sc : Nat) (si : Int) (dn : Bool) (q : ActR) (W : World) : Prop where
  below : Below w.heap.size w W
  x : W.heap[w.heap.size]? = some (.cells #[.slice fa fl fc, .int .i64 qu, .int .i64 st, .slice sa sl sc, .int .i64 si, .bool dn] 32 (0, 0))
  a : W.heap[w.heap.size + 1]? = some (.cells #[.int .i64 q.kind, .int .i64 q.on, .string q.name, .string q.dest, .string q.data, .int .i64 q.n, .slice q.sa q.sn q.sc] 38 (0, 0))
  r : W.heap[w.heap.size + 1 + 1]? = some (.cells #[.slice none 0 0, .int .i64 0, .int .i64 0, .slice none 0 0, .int .i64 0, .bool false] 32 (0, 0))
theorem CalG.on {w : World} {fa : Option Addr} {fl fc : Nat} {qu st : Int} {sa : Option Addr} {sl sc : Nat} {si : Int} {dn : Bool} {q : ActR} {W W' : World} (h : CalG w fa fl fc qu st sa sl sc si dn q W) (hb : Below W.heap.size W W') : CalG w fa fl fc qu st sa sl sc si dn q W' :=
  ⟨h.below.trans (hb.mono h.below.size), by rw [hb.block _ (lt_of_heap h.x)]; exact h.x, by rw [hb.block _ (lt_of_heap h.a)]; exact h.a, by rw [hb.block _ (lt_of_heap h.r)]; exact h.r⟩
theorem calG_start (w : World) (fa : Option Addr) (fl fc : Nat) (qu st : Int) (sa : Option Addr) (sl sc : Nat) (si : Int) (dn : Bool) (q : ActR) : CalG w fa fl fc qu st sa sl sc si dn q (((w.alloc (.cells #[.slice fa fl fc, .int .i64 qu, .int .i64 st, .slice sa sl sc, .int .i64 si, .bool dn] 32)).alloc (.cells #[.int .i64 q.kind, .int .i64 q.on, .string q.name, .string q.dest, .string q.data, .int .i64 q.n, .slice q.sa q.sn q.sc] 38)).alloc (.cells #[.slice none 0 0, .int .i64 0, .int .i64 0, .slice none 0 0, .int .i64 0, .bool false] 32)) := by
  refine ⟨((((Below.refl _ _).alloc (Nat.le_refl _) _).alloc (by simp) _).alloc (by simp; omega) _), ?_, ?_, ?_⟩
  · rw [Below.heap_alloc _ _ _ (by simp; omega), Below.heap_alloc _ _ _ (by simp)]
    exact heap_alloc_new _ _
  · rw [Below.heap_alloc _ _ _ (by simp)]
    exact heapR_second _ _ _
  · have := heap_alloc_new ((w.alloc (.cells #[.slice fa fl fc, .int .i64 qu, .int .i64 st, .slice sa sl sc, .int .i64 si, .bool dn] 32)).alloc (.cells #[.int .i64 q.kind, .int .i64 q.on, .string q.name, .string q.dest, .string q.data, .int .i64 q.n, .slice q.sa q.sn q.sc] 38)) (.cells #[.slice none 0 0, .int .i64 0, .int .i64 0, .slice none 0 0, .int .i64 0, .bool false] 32)
    simpa using this
theorem actC {z : Nat} {q : ActR} {W : World} (h : W.heap[z]? = some (.cells #[.int .i64 q.kind, .int .i64 q.on, .string q.name, .string q.dest, .string q.data, .int .i64 q.n, .slice q.sa q.sn q.sc] 38 (0, 0))) : W.cell? ⟨z, 0, none⟩ = some (.int .i64 q.kind) ∧ W.cell? ⟨z, 1, none⟩ = some (.int .i64 q.on) ∧ W.cell? ⟨z, 2, none⟩ = some (.string q.name) ∧ W.cell? ⟨z, 3, none⟩ = some (.string q.dest) ∧ W.cell? ⟨z, 4, none⟩ = some (.string q.data) ∧ W.cell? ⟨z, 5, none⟩ = some (.int .i64 q.n) ∧ W.cell? ⟨z, 6, none⟩ = some (.slice q.sa q.sn q.sc) :=
  ⟨cell_of h 0, cell_of h 1, cell_of h 2, cell_of h 3, cell_of h 4, cell_of h 5, cell_of h 6⟩
theorem dskC {z : Nat} {fv sv : Value} {qu st si : Int} {dn : Bool} {W : World} (h : W.heap[z]? = some (.cells #[fv, .int .i64 qu, .int .i64 st, sv, .int .i64 si, .bool dn] 32 (0, 0))) : W.cell? ⟨z, 0, none⟩ = some fv ∧ W.cell? ⟨z, 1, none⟩ = some (.int .i64 qu) ∧ W.cell? ⟨z, 2, none⟩ = some (.int .i64 st) ∧ W.cell? ⟨z, 3, none⟩ = some sv ∧ W.cell? ⟨z, 4, none⟩ = some (.int .i64 si) ∧ W.cell? ⟨z, 5, none⟩ = some (.bool dn) :=
  ⟨cell_of h 0, cell_of h 1, cell_of h 2, cell_of h 3, cell_of h 4, cell_of h 5⟩
/-- What called answers, and how both disks stand. -/
def CalOut (A : Whys) (w0 w : World) (d : Nat) (S : DS) (K : List (Nat × Obj)) (fv sv : Value) (e : Ending) (w' : World) : Prop :=
  ∃ S' P' K' l' rs' si' fv' sv', e = .returned (.tuple #[rdV fv' (S'.quota : Int) (S'.steps : Int) sv' si' (!S'.runs), .bool true]) ∧ Dk A w0 d S' P' K' w' ∧ Rf K' fv' sv' l' rs' w' ∧ Meet S' P' l' rs' si' ∧ (∀ x, x ∈ K → x ∈ K') ∧ S'.steps ≤ S.steps + 1 ∧ (∀ b, fv'.ownBlock = some b → fv.ownBlock = some b ∨ w.heap.size ≤ b) ∧ ∀ b, svBlk sv' = some b → svBlk sv = some b ∨ w.heap.size ≤ b
/-- The end of called: the result's block is written. -/
theorem calOut_of {A : Whys} {w0 w W W' : World} {d : Nat} {S0 S : DS} {P : List PF} {K K1 : List (Nat × Obj)} {fv sv fv0 sv0 : Value} {l : List PF} {rs : List (Int × Int × Int)} {si : Int} {o : Obj} {cs : Array Value} (hK0 : ∀ x, x ∈ K → x.1 < w.heap.size) (hw0 : w0.heap.size ≤ w.heap.size)
    (hD : Dk A w0 d S P K1 W) (hr : (w.heap.size + 1 + 1, o) ∈ K1) (hKK : ∀ x, x ∈ K → x ∈ K1) (hb : Below W.heap.size W W') (hR : Rf K1 fv sv l rs W) (hfr : ∀ b, fv.ownBlock = some b → b ≠ w.heap.size + 1 + 1) (hsr : ∀ b, svBlk sv = some b → b ≠ w.heap.size + 1 + 1) (hM : Meet S P l rs si) (hs : S.steps ≤ S0.steps + 1) (hfo : ∀ b, fv.ownBlock = some b → fv0.ownBlock = some b ∨ w.heap.size ≤ b) (hso : ∀ b, svBlk sv = some b → svBlk sv0 = some b ∨ w.heap.size ≤ b) :
    CalOut A w0 w d S0 K fv0 sv0 (.returned (.tuple #[rdV fv (S.quota : Int) (S.steps : Int) sv si (!S.runs), .bool true])) (W'.setRow (w.heap.size + 1 + 1) cs) := by
  have hD1 := hD.up hb
  have hset : ∀ b, b ≠ w.heap.size + 1 + 1 → (W'.setRow (w.heap.size + 1 + 1) cs).heap[b]? = W'.heap[b]? := fun b hne => setRow_other _ _ _ _ hne
  have hD2 : Dk A w0 d S P (K1.filter fun x => decide (x.1 ≠ w.heap.size + 1 + 1)) (W'.setRow (w.heap.size + 1 + 1) cs) := hD1.over hr (by omega) (by simp [World.setRow]) ⟨rfl, rfl, rfl⟩ (fun b hne _ => hset b hne) (fun x hx => by
    have := List.mem_filter.1 hx
    exact ⟨this.1, by simpa using this.2⟩)
  have hf : ∀ b, fv.ownBlock = some b → ∃ o, (b, o) ∈ K1.filter fun x => decide (x.1 ≠ w.heap.size + 1 + 1) := fun b e => by
    obtain ⟨o, ho⟩ := hR.fk b e
    exact ⟨o, List.mem_filter.2 ⟨ho, by simpa using hfr b e⟩⟩
  have hsv : ∀ b, svBlk sv = some b → ∃ o, (b, o) ∈ K1.filter fun x => decide (x.1 ≠ w.heap.size + 1 + 1) := fun b e => by
    obtain ⟨o, ho⟩ := hR.sk b e
    exact ⟨o, List.mem_filter.2 ⟨ho, by simpa using hsr b e⟩⟩
  refine ⟨S, P, _, l, rs, si, fv, sv, rfl, hD2, ⟨?_, ?_, hf, hsv⟩, hM, fun x hx => List.mem_filter.2 ⟨hKK x hx, by have := hK0 x hx; simp; omega⟩, hs, hfo, hso⟩
  · exact hR.fs.kept (fun b e => by obtain ⟨o, ho⟩ := hf b e; exact ⟨o, hD.kept (List.mem_filter.1 ho).1, hD2.kept ho⟩)
  · exact hR.ss.kept (fun b e => by obtain ⟨o, ho⟩ := hsv b e; exact ⟨o, hD.kept (List.mem_filter.1 ho).1, hD2.kept ho⟩)
theorem Dk.w0 {A : Whys} {w0 w : World} {d : Nat} {S : DS} {P : List PF} {K : List (Nat × Obj)} (h : Dk A w0 d S P K w) : Below w0.heap.size w0 w := by
  obtain ⟨m, sv, clk, F, hD, rfl, hb0, he, hK⟩ := h
  exact hb0
theorem Dk.envW {A : Whys} {w0 w : World} {d : Nat} {S : DS} {P : List PF} {K : List (Nat × Obj)} (h : Dk A w0 d S P K w) : Env A w0.heap.size w := by
  obtain ⟨m, sv, clk, F, hD, rfl, hb0, he, hK⟩ := h
  exact he
theorem Dk.ltK {A : Whys} {w0 w : World} {d : Nat} {S : DS} {P : List PF} {K : List (Nat × Obj)} (h : Dk A w0 d S P K w) : ∀ x, x ∈ K → x.1 < w.heap.size := fun _ hx => lt_of_heap (h.kept hx)
/-- The rows that Do has made are kept, too. -/
theorem keep_new {fv' : Value} {W : World} {B : Nat} {l : List PF} (hf : FsAt W fv' l) (P : Nat → Prop) (hfb : ∀ b, fv'.ownBlock = some b → P b ∨ B ≤ b) : ∃ Kf : List (Nat × Obj), (∀ x, x ∈ Kf → B ≤ x.1 ∧ W.heap[x.1]? = some x.2) ∧ ∀ b, fv'.ownBlock = some b → P b ∨ ∃ o, (b, o) ∈ Kf := by
  cases e : fv'.ownBlock with
  | none => exact ⟨[], (fun x hx => by cases hx), (fun b hb => by cases hb)⟩
  | some b =>
    rcases hfb b e with h | h
    · exact ⟨[], (fun x hx => by cases hx), (fun b' hb => by cases hb; exact .inl h)⟩
    · have hl := hf.lt e
      refine ⟨[(b, W.heap[b])], fun x hx => ?_, (fun b' hb => by cases hb; exact .inr ⟨_, List.mem_singleton.2 rfl⟩)⟩
      rw [List.mem_singleton.1 hx]
      exact ⟨h, Array.getElem?_eq_getElem hl⟩
set_option maxRecDepth 20000 in
set_option maxHeartbeats 8000000 in
theorem called_both {A : Whys} {w0 w : World} {d : Nat} {S : DS} {P l : List PF} {K : List (Nat × Obj)} {rs : List (Int × Int × Int)} {si : Int} {fv sv : Value} (hD : Dk A w0 d S P K w) (hRf : Rf K fv sv l rs w) (hM : Meet S P l rs si) (hn : S.steps < 100000000) (hg : w0.cell? ⟨5, 0, none⟩ = some (rtV 26)) (q : ActR) (hk : 1 ≤ q.kind ∧ q.kind ≤ 6) (hns : q.name.size ≤ 140737488355328) (hts : q.dest.size ≤ 140737488355328) (hds : q.data.size ≤ 140737488355328) :
    Calls Tryz.prog 8 #[.pointer (some ⟨d, 0, none⟩), rdV fv (S.quota : Int) (S.steps : Int) sv si (!S.runs), .agg q.cells] w fun e w' => CalOut A w0 w d S K fv sv e w' := by
  obtain ⟨fa, fc, hfv, _⟩ := hRf.fs.form
  obtain ⟨sa, sc, hsv, _⟩ := id hRf.ss
  subst hfv hsv
  have h3 := calG_start w fa l.length fc (S.quota : Int) (S.steps : Int) sa rs.length sc si (!S.runs) q
  obtain ⟨W3, hW3⟩ : ∃ W3, ((w.alloc (.cells #[.slice fa l.length fc, .int .i64 (S.quota : Int), .int .i64 (S.steps : Int), .slice sa rs.length sc, .int .i64 si, .bool (!S.runs)] 32)).alloc (.cells #[.int .i64 q.kind, .int .i64 q.on, .string q.name, .string q.dest, .string q.data, .int .i64 q.n, .slice q.sa q.sn q.sc] 38)).alloc (.cells #[.slice none 0 0, .int .i64 0, .int .i64 0, .slice none 0 0, .int .i64 0, .bool false] 32) = W3 := ⟨_, rfl⟩
  rw [hW3] at h3
  have HW := Lib.hid hW3
  have hlen := hM.len
  have hll : l.length = P.length := hM.perm.length_eq
  have hsi := hM.since
  have hDo := rDo_any (.slice fa l.length fc) l (S.quota : Int) (S.steps : Int) (.slice sa rs.length sc) rs si (!S.runs) q.kind q.name q.dest q.data q.n W3 (hRf.fs.on h3.below) (hRf.ss.on h3.below) (by omega) (by have := hM.usedL; omega) hM.fokL (by have := hM.quota.1; omega) (by have := hM.quota.2; omega) (by omega) (by omega) hsi.1 (by omega) hns hts hds hM.inr
  have HDo := Lib.hid hDo
  have HM := Lib.hid hM
  have HD := Lib.hid hD
  have HRf := Lib.hid hRf
  have H3 := Lib.hid h3
  have HN := Lib.hid hn
  have HG := Lib.hid hg
  have HWd := Lib.hid (fun W => words_any q.kind hk W)
  have HSz := Lib.hid (And.intro hns (And.intro hts hds))
  have HK := Lib.hid hk
  obtain ⟨x0, x1, x2, x3, x4, x5⟩ := dskC h3.x
  obtain ⟨a0, a1, a2, a3, a4, a5, a6⟩ := actC h3.a
  have h1 : ¬ q.kind < 1 := by omega
  have h6 : ¬ 6 < q.kind := by omega
  clear h3 hW3 hD hRf hM hDo hn hg hk hns hts hds hlen hll hsi
  obtain ⟨kind, on, name, dest, data, n, qsa, qsn, qsc⟩ := q
  simp only [ActR.cells] at *
  generalize hfl : l.length = fl at *
  generalize hsl : rs.length = sl at *
  clear hfl hsl
  generalize hdn : (!S.runs) = dn at *
  have HDn := Lib.hid hdn
  clear hdn
  generalize hRR : doR (S.quota : Int) (S.steps : Int) l rs si dn kind name dest data n = RR at HDo
  have HRR := Lib.hid hRR
  clear hRR
  unfold rdV opV at HDo
  unfold rdV
  go_enter Tryz.func8, Tryz.ntmps8
  go_upto_region 1 with fail
  rw [HW.out]
  go_upto_region 3 with (go_at_call 16; refine HDo.out.mono ?_; rintro e w4 ⟨fv', sv', rfl, hO⟩; obtain ⟨ga, gc, hfv', _⟩ := hO.fs.form; obtain ⟨ha, hc, hsv', _⟩ := id hO.ss; subst hfv' hsv'; have HO := Lib.hid hO; clear hO)
  clear x0 x1 x2 x3 x4 x5 a0 a1 a2 a3 a4 a5 a6 HDo
  obtain ⟨gl, hgl⟩ : ∃ x, x = RR.l.length := ⟨_, rfl⟩
  obtain ⟨hl, hhl⟩ : ∃ x, x = RR.rs.length := ⟨_, rfl⟩
  obtain ⟨Rst, hRst⟩ : ∃ x, x = RR.st := ⟨_, rfl⟩
  obtain ⟨Rsi, hRsi⟩ : ∃ x, x = RR.si := ⟨_, rfl⟩
  obtain ⟨Rdn, hRdn⟩ : ∃ x, x = RR.dn := ⟨_, rfl⟩
  obtain ⟨tx, htx⟩ : ∃ x, x = RR.tx := ⟨_, rfl⟩
  obtain ⟨code, hcode⟩ : ∃ x, x = RR.code := ⟨_, rfl⟩
  obtain ⟨stp, hstp⟩ : ∃ x, x = RR.step := ⟨_, rfl⟩
  rw [← hgl, ← hhl] at HO
  rw [← hgl, ← hhl, ← hRst, ← hRsi, ← hRdn, ← htx, ← hcode, ← hstp]
  have HE := Lib.hid (And.intro hRst (And.intro hRsi (And.intro hRdn (And.intro htx (And.intro hcode hstp)))))
  clear hgl hhl hRst hRsi hRdn htx hcode hstp
  obtain ⟨W5, hW5⟩ : ∃ W5, w4.alloc (.cells #[.slice ga gl gc, .int .i64 (S.quota : Int), .int .i64 Rst, .slice ha hl hc, .int .i64 Rsi, .bool Rdn] 32) = W5 := ⟨_, rfl⟩
  have hb45 : Below w4.heap.size w4 W5 := by rw [← hW5]; exact (Below.refl _ _).alloc (Nat.le_refl _) _
  have hY5 : W5.heap[w4.heap.size]? = some (.cells #[.slice ga gl gc, .int .i64 (S.quota : Int), .int .i64 Rst, .slice ha hl hc, .int .i64 Rsi, .bool Rdn] 32 (0, 0)) := by rw [← hW5]; exact heap_alloc_new _ _
  have h5 := (H3.out.on HO.out.below).on hb45
  obtain ⟨Kf, hKf, hKb⟩ := keep_new (HO.out.fs.on hb45) (fun b => (Value.slice fa fl fc).ownBlock = some b) (B := W3.heap.size) (fun b e => HO.out.fb b e)
  have hz3 : w.heap.size + 1 + 1 < W3.heap.size := lt_of_heap H3.out.r
  have hz4 := HO.out.below.size
  have hD5 := HD.out.keepL h5.below ((w.heap.size, .cells #[.slice fa fl fc, .int .i64 (S.quota : Int), .int .i64 (S.steps : Int), .slice sa sl sc, .int .i64 si, .bool dn] 32 (0, 0)) :: (w.heap.size + 1, .cells #[.int .i64 kind, .int .i64 on, .string name, .string dest, .string data, .int .i64 n, .slice qsa qsn qsc] 38 (0, 0)) :: (w.heap.size + 1 + 1, .cells #[.slice none 0 0, .int .i64 0, .int .i64 0, .slice none 0 0, .int .i64 0, .bool false] 32 (0, 0)) :: (w4.heap.size, .cells #[.slice ga gl gc, .int .i64 (S.quota : Int), .int .i64 Rst, .slice ha hl hc, .int .i64 Rsi, .bool Rdn] 32 (0, 0)) :: Kf) (by
    intro x hx
    simp only [List.mem_cons] at hx
    rcases hx with rfl | rfl | rfl | rfl | hx
    · exact ⟨Nat.le_refl _, h5.x⟩
    · exact ⟨by omega, h5.a⟩
    · exact ⟨by omega, h5.r⟩
    · exact ⟨by show w.heap.size ≤ w4.heap.size; omega, hY5⟩
    · obtain ⟨k1, k2⟩ := hKf x hx
      exact ⟨by omega, k2⟩)
  have HDoes := Lib.hid (doesM_any hD5 HM.out (Nat.lt_trans HN.out (by decide)) ⟨kind, on, name, dest, data, n, qsa, qsn, qsc⟩ HK.out HSz.out.1 HSz.out.2.1)
  have HR5 : Hid (Rf (((w.heap.size, .cells #[.slice fa fl fc, .int .i64 (S.quota : Int), .int .i64 (S.steps : Int), .slice sa sl sc, .int .i64 si, .bool dn] 32 (0, 0)) :: (w.heap.size + 1, .cells #[.int .i64 kind, .int .i64 on, .string name, .string dest, .string data, .int .i64 n, .slice qsa qsn qsc] 38 (0, 0)) :: (w.heap.size + 1 + 1, .cells #[.slice none 0 0, .int .i64 0, .int .i64 0, .slice none 0 0, .int .i64 0, .bool false] 32 (0, 0)) :: (w4.heap.size, .cells #[.slice ga gl gc, .int .i64 (S.quota : Int), .int .i64 Rst, .slice ha hl hc, .int .i64 Rsi, .bool Rdn] 32 (0, 0)) :: Kf) ++ K) (.slice ga gl gc) (.slice ha hl hc) RR.l RR.rs W5) := Lib.hid ⟨HO.out.fs.on hb45, HO.out.ss.on hb45, fun b e => by
      rcases hKb b e with e' | ⟨o, ho⟩
      · obtain ⟨o, ho⟩ := HRf.out.fk b e'
        exact ⟨o, List.mem_append_right _ ho⟩
      · exact ⟨o, List.mem_append_left _ (by simp [ho])⟩, fun b e => by
      obtain ⟨o, ho⟩ := HRf.out.sk b (HO.out.sb b e)
      exact ⟨o, List.mem_append_right _ ho⟩⟩
  have HFr : Hid ((∀ b, (Value.slice ga gl gc).ownBlock = some b → b ≠ w.heap.size + 1 + 1) ∧ ∀ b, svBlk (.slice ha hl hc) = some b → b ≠ w.heap.size + 1 + 1) := Lib.hid ⟨fun b e => by
      rcases HO.out.fb b e with e' | e'
      · obtain ⟨o, ho⟩ := HRf.out.fk b e'
        have := HD.out.ltK _ ho
        simp only at this
        omega
      · omega, fun b e => by
      obtain ⟨o, ho⟩ := HRf.out.sk b (HO.out.sb b e)
      have := HD.out.ltK _ ho
      simp only at this
      omega⟩
  have HFo : Hid ((∀ b, (Value.slice ga gl gc).ownBlock = some b → (Value.slice fa fl fc).ownBlock = some b ∨ w.heap.size ≤ b) ∧ ∀ b, svBlk (.slice ha hl hc) = some b → svBlk (.slice sa sl sc) = some b ∨ w.heap.size ≤ b) := Lib.hid ⟨fun b e => by
      rcases HO.out.fb b e with e' | e'
      · exact .inl e'
      · exact .inr (by omega), fun b e => .inl (HO.out.sb b e)⟩
  have HD5 := Lib.hid hD5
  obtain ⟨a0, a1, a2, a3, a4, a5, a6⟩ := actC h5.a
  simp only at a0 a1 a2 a3 a4 a5 a6
  have HZ4 : Hid (w.heap.size + 1 + 1 < w4.heap.size) := Lib.hid (by omega)
  clear hb45 hY5 h5 hKf hKb hz3 hz4 hD5 HO
  rw [hW5]
  clear hW5
  simp only [ActR.cells] at HDoes
  go_upto_region 4 with (go_at_call 17; refine HDoes.out.mono ?_; rintro e w6 ⟨s, er, rfl, P', K6, hD6, hE6, hs, hM6, hst6, hdn6⟩; simp only at hE6 hs hM6 hst6 hdn6; rw [HDn.out, HRR.out] at hE6 hs hM6 hst6 hdn6; have H6 := Lib.hid (And.intro hD6 (And.intro hE6 (And.intro hs (And.intro hM6 (And.intro hst6 hdn6))))); clear hD6 hE6 hs hM6 hst6 hdn6)
  clear a0 a1 a2 a3 a4 a5 a6 HDoes
  obtain ⟨eRst, eRsi, eRdn, etx, ecode, estp⟩ := HE.out
  obtain ⟨hD6, hE6, hs6, hM6, hst6, hdn6⟩ := H6.out
  rw [← etx] at hs6
  have hs7 := hs6.symm
  clear hs6
  subst hs7
  rw [← ecode, ← estp] at hE6
  have hmem : ∀ x, x ∈ ((w.heap.size, .cells #[.slice fa fl fc, .int .i64 (S.quota : Int), .int .i64 (S.steps : Int), .slice sa sl sc, .int .i64 si, .bool dn] 32 (0, 0)) :: (w.heap.size + 1, .cells #[.int .i64 kind, .int .i64 on, .string name, .string dest, .string data, .int .i64 n, .slice qsa qsn qsc] 38 (0, 0)) :: (w.heap.size + 1 + 1, .cells #[.slice none 0 0, .int .i64 0, .int .i64 0, .slice none 0 0, .int .i64 0, .bool false] 32 (0, 0)) :: (w4.heap.size, .cells #[.slice ga gl gc, .int .i64 (S.quota : Int), .int .i64 Rst, .slice ha hl hc, .int .i64 Rsi, .bool Rdn] 32 (0, 0)) :: Kf) ++ K → x ∈ K6 := fun x hx => hE6.mem hx
  have hY6 := hD6.kept (hmem (w4.heap.size, .cells #[.slice ga gl gc, .int .i64 (S.quota : Int), .int .i64 Rst, .slice ha hl hc, .int .i64 Rsi, .bool Rdn] 32 (0, 0)) (by simp))
  have hA6 := hD6.kept (hmem (w.heap.size + 1, .cells #[.int .i64 kind, .int .i64 on, .string name, .string dest, .string data, .int .i64 n, .slice qsa qsn qsc] 38 (0, 0)) (by simp))
  have hR6 := hD6.kept (hmem (w.heap.size + 1 + 1, .cells #[.slice none 0 0, .int .i64 0, .int .i64 0, .slice none 0 0, .int .i64 0, .bool false] 32 (0, 0)) (by simp))
  simp only at hY6 hA6 hR6
  have HS6 : Hid (∀ X, Below w6.heap.size w6 X → X.heap[w4.heap.size]? = some (.cells #[.slice ga gl gc, .int .i64 (S.quota : Int), .int .i64 Rst, .slice ha hl hc, .int .i64 Rsi, .bool Rdn] 32 (0, 0)) ∧ X.heap[w.heap.size + 1]? = some (.cells #[.int .i64 kind, .int .i64 on, .string name, .string dest, .string data, .int .i64 n, .slice qsa qsn qsc] 38 (0, 0))) := Lib.hid (fun X hX => ⟨by rw [hX.block _ (lt_of_heap hY6)]; exact hY6, by rw [hX.block _ (lt_of_heap hA6)]; exact hA6⟩)
  have HR6 : Hid (∀ X, Below w6.heap.size w6 X → X.heap[w.heap.size + 1 + 1]? = some (.cells #[.slice none 0 0, .int .i64 0, .int .i64 0, .slice none 0 0, .int .i64 0, .bool false] 32 (0, 0))) := Lib.hid (fun X hX => by rw [hX.block _ (lt_of_heap hR6)]; exact hR6)
  have hne : w4.heap.size ≠ w.heap.size + 1 + 1 := by have := HZ4.out; omega
  have HS9 : Hid (∀ X, Below w6.heap.size w6 X → ∀ cs, (X.setRow (w.heap.size + 1 + 1) cs).heap[w4.heap.size]? = some (.cells #[.slice ga gl gc, .int .i64 (S.quota : Int), .int .i64 Rst, .slice ha hl hc, .int .i64 Rsi, .bool Rdn] 32 (0, 0)) ∧ (X.setRow (w.heap.size + 1 + 1) cs).heap[w.heap.size + 1]? = some (.cells #[.int .i64 kind, .int .i64 on, .string name, .string dest, .string data, .int .i64 n, .slice qsa qsn qsc] 38 (0, 0))) := Lib.hid (fun X hX cs => ⟨by rw [setRow_other _ _ _ _ hne]; exact (HS6.out X hX).1, by rw [setRow_other _ _ _ _ (by omega)]; exact (HS6.out X hX).2⟩)
  have HB6 := Lib.hid (Below.refl w6.heap.size w6)
  have HW2 : Hid (∀ W, Below w6.heap.size w6 W → Calls Tryz.prog 19 #[.int .i64 kind] W fun e w' => e = .returned (.string (wordM kind)) ∧ Below w6.heap.size w6 w') := Lib.hid (fun W hW => (HWd.out W).mono (by
    rintro e w' ⟨rfl, hb⟩
    exact ⟨rfl, hW.trans (hb.mono hW.size)⟩))
  have HT2 : Hid (∀ W, Below w6.heap.size w6 W → Calls Tryz.prog 18 #[er, .int .i64 code, .string (wordM kind), .string name, .int .i64 stp] W fun e w' => e = .returned (.bool true) ∧ Below w6.heap.size w6 w') := Lib.hid (fun W hW => by
    rcases hE6 with ⟨hc, rfl, _⟩ | ⟨hc, p, rfl, hK⟩
    · subst hc
      refine (told_nil _ _ _ W).mono ?_
      rintro e w' ⟨rfl, hb⟩
      first | exact ⟨rfl, hW.trans (hb.mono hW.size)⟩ | (subst hb; exact ⟨rfl, hW⟩)
    · have hp := hD6.kept (x := (p, failObj A (wordM kind) name stp code)) (by rw [hK]; exact List.mem_cons_self ..)
      simp only at hp
      have hgW : W.cell? ⟨5, 0, none⟩ = some (rtV 26) := by
        have hbw := (hD6.up hW).w0
        rw [hbw.cell (p := ⟨5, 0, none⟩) (World.block_lt_of_cell? w0 _ HG.out)]
        exact HG.out
      refine (told_fail (hD6.up hW).envW hgW _ _ _ _ hc (by rw [hW.block _ (lt_of_heap hp)]; exact hp)).mono ?_
      rintro e w' ⟨rfl, hb⟩
      exact ⟨rfl, hW.trans (hb.mono hW.size)⟩)
  have HEnd : Hid (∀ X cs, Below w6.heap.size w6 X → CalOut A w0 w d S K (.slice fa fl fc) (.slice sa sl sc) (.returned (.tuple #[.agg #[.slice ga gl gc, .int .i64 (S.quota : Int), .int .i64 Rst, .slice ha hl hc, .int .i64 Rsi, .bool Rdn], .bool true])) (X.setRow (w.heap.size + 1 + 1) cs)) := Lib.hid (fun X cs hX => by
    have hRf6 := HR5.out.go HD5.out hD6 hmem
    have := calOut_of (S0 := S) (cs := cs) HD.out.ltK HD.out.w0.size hD6 (hmem (w.heap.size + 1 + 1, .cells #[.slice none 0 0, .int .i64 0, .int .i64 0, .slice none 0 0, .int .i64 0, .bool false] 32 (0, 0)) (by simp)) (fun x hx => hmem x (List.mem_append_right _ hx)) hX hRf6 HFr.out.1 HFr.out.2 hM6 (DS.next_quota S).2 HFo.out.1 HFo.out.2
    unfold rdV at this
    rw [(DS.next_quota S).1, ← hst6, ← hdn6, ← eRst, ← eRsi, ← eRdn] at this
    exact this)
  clear hD6 hE6 hM6 hst6 hdn6 hmem hY6 hA6 hR6 eRst eRsi eRdn etx ecode estp H6 HE HD5 HR5 HFr HFo HWd HRR hne
  generalize wordM kind = wd at *
  refine wp_region_N 16 (fun X => X.heap[w4.heap.size]? = some (.cells #[.slice ga gl gc, .int .i64 (S.quota : Int), .int .i64 Rst, .slice ha hl hc, .int .i64 Rsi, .bool Rdn] 32 (0, 0)) ∧ X.heap[w.heap.size + 1]? = some (.cells #[.int .i64 kind, .int .i64 on, .string name, .string dest, .string data, .int .i64 n, .slice qsa qsn qsc] 38 (0, 0))) (by kernel_rfl) ?_
  refine wpAnyN_take (i := 0) (oi := { dst := some 51, op := Go.Op.load 32 (Go.Operand.tmp 8), type := 32, pos := "law.go:122", after := #[], guard := none }) (oL := { dst := some 7, op := Go.Op.assign (Go.Operand.tmp 65), type := 4, pos := "law.go:122", after := #[{ on := 14, ground := Go.Ground.data }, { on := 15, ground := Go.Ground.chain }, { on := 0, ground := Go.Ground.phase }, { on := 1, ground := Go.Ground.phase }, { on := 2, ground := Go.Ground.phase }, { on := 3, ground := Go.Ground.phase }, { on := 4, ground := Go.Ground.phase }, { on := 5, ground := Go.Ground.phase }, { on := 6, ground := Go.Ground.phase }, { on := 7, ground := Go.Ground.phase }, { on := 8, ground := Go.Ground.phase }, { on := 9, ground := Go.Ground.phase }, { on := 10, ground := Go.Ground.phase }, { on := 11, ground := Go.Ground.phase }, { on := 12, ground := Go.Ground.phase }, { on := 13, ground := Go.Ground.phase }, { on := 14, ground := Go.Ground.phase }, { on := 15, ground := Go.Ground.phase }], guard := none }) (v := .agg #[.slice ga gl gc, .int .i64 (S.quota : Int), .int .i64 Rst, .slice ha hl hc, .int .i64 Rsi, .bool Rdn]) rfl rfl (by kernel_rfl) (by kernel_rfl) (by kernel_rfl) (by kernel_rfl) (fun _ _ _ h => h) (Or.inl ⟨by kernel_rfl, ?_⟩) (HS6.out _ HB6.out.drew) ?_
  · (intro X hX; obtain ⟨y0, y1, y2, y3, y4, y5⟩ := dskC hX.1; obtain ⟨a0, a1, a2, a3, a4, a5, a6⟩ := actC (q := ⟨kind, on, name, dest, data, n, qsa, qsn, qsc⟩) hX.2; simp only at a0 a1 a2 a3 a4 a5 a6 <;> (go_simp; try (with_reducible rfl)))
  (try simp only [Act.put, List.setIfInBounds_toArray, List.set_cons_zero, List.set_cons_succ])
  refine wpAnyN_take (i := 1) (oi := { dst := some 52, op := Go.Op.move (Go.Operand.tmp 12), type := 9, pos := "law.go:122", after := #[], guard := none }) (oL := { dst := some 7, op := Go.Op.assign (Go.Operand.tmp 65), type := 4, pos := "law.go:122", after := #[{ on := 14, ground := Go.Ground.data }, { on := 15, ground := Go.Ground.chain }, { on := 0, ground := Go.Ground.phase }, { on := 1, ground := Go.Ground.phase }, { on := 2, ground := Go.Ground.phase }, { on := 3, ground := Go.Ground.phase }, { on := 4, ground := Go.Ground.phase }, { on := 5, ground := Go.Ground.phase }, { on := 6, ground := Go.Ground.phase }, { on := 7, ground := Go.Ground.phase }, { on := 8, ground := Go.Ground.phase }, { on := 9, ground := Go.Ground.phase }, { on := 10, ground := Go.Ground.phase }, { on := 11, ground := Go.Ground.phase }, { on := 12, ground := Go.Ground.phase }, { on := 13, ground := Go.Ground.phase }, { on := 14, ground := Go.Ground.phase }, { on := 15, ground := Go.Ground.phase }], guard := none }) (v := .string tx) rfl rfl (by kernel_rfl) (by kernel_rfl) (by kernel_rfl) (by kernel_rfl) (fun _ _ _ h => h) (Or.inl ⟨by kernel_rfl, ?_⟩) (HS6.out _ HB6.out.drew) ?_
  · (intro X hX; obtain ⟨y0, y1, y2, y3, y4, y5⟩ := dskC hX.1; obtain ⟨a0, a1, a2, a3, a4, a5, a6⟩ := actC (q := ⟨kind, on, name, dest, data, n, qsa, qsn, qsc⟩) hX.2; simp only at a0 a1 a2 a3 a4 a5 a6 <;> (go_simp; try (with_reducible rfl)))
  (try simp only [Act.put, List.setIfInBounds_toArray, List.set_cons_zero, List.set_cons_succ])
  refine wpAnyN_take (i := 2) (oi := { dst := some 53, op := Go.Op.move (Go.Operand.tmp 9), type := 9, pos := "law.go:122", after := #[], guard := none }) (oL := { dst := some 7, op := Go.Op.assign (Go.Operand.tmp 65), type := 4, pos := "law.go:122", after := #[{ on := 14, ground := Go.Ground.data }, { on := 15, ground := Go.Ground.chain }, { on := 0, ground := Go.Ground.phase }, { on := 1, ground := Go.Ground.phase }, { on := 2, ground := Go.Ground.phase }, { on := 3, ground := Go.Ground.phase }, { on := 4, ground := Go.Ground.phase }, { on := 5, ground := Go.Ground.phase }, { on := 6, ground := Go.Ground.phase }, { on := 7, ground := Go.Ground.phase }, { on := 8, ground := Go.Ground.phase }, { on := 9, ground := Go.Ground.phase }, { on := 10, ground := Go.Ground.phase }, { on := 11, ground := Go.Ground.phase }, { on := 12, ground := Go.Ground.phase }, { on := 13, ground := Go.Ground.phase }, { on := 14, ground := Go.Ground.phase }, { on := 15, ground := Go.Ground.phase }], guard := none }) (v := .string tx) rfl rfl (by kernel_rfl) (by kernel_rfl) (by kernel_rfl) (by kernel_rfl) (fun _ _ _ h => h) (Or.inl ⟨by kernel_rfl, ?_⟩) (HS6.out _ HB6.out.drew) ?_
  · (intro X hX; obtain ⟨y0, y1, y2, y3, y4, y5⟩ := dskC hX.1; obtain ⟨a0, a1, a2, a3, a4, a5, a6⟩ := actC (q := ⟨kind, on, name, dest, data, n, qsa, qsn, qsc⟩) hX.2; simp only at a0 a1 a2 a3 a4 a5 a6 <;> (go_simp; try (with_reducible rfl)))
  (try simp only [Act.put, List.setIfInBounds_toArray, List.set_cons_zero, List.set_cons_succ])
  refine wpAnyN_take (i := 3) (oi := { dst := some 54, op := Go.Op.binOp Go.BinOp.eql 9 (Go.Operand.tmp 52) (Go.Operand.tmp 53) 9, type := 4, pos := "law.go:122", after := #[{ on := 1, ground := Go.Ground.data }, { on := 2, ground := Go.Ground.data }], guard := none }) (oL := { dst := some 7, op := Go.Op.assign (Go.Operand.tmp 65), type := 4, pos := "law.go:122", after := #[{ on := 14, ground := Go.Ground.data }, { on := 15, ground := Go.Ground.chain }, { on := 0, ground := Go.Ground.phase }, { on := 1, ground := Go.Ground.phase }, { on := 2, ground := Go.Ground.phase }, { on := 3, ground := Go.Ground.phase }, { on := 4, ground := Go.Ground.phase }, { on := 5, ground := Go.Ground.phase }, { on := 6, ground := Go.Ground.phase }, { on := 7, ground := Go.Ground.phase }, { on := 8, ground := Go.Ground.phase }, { on := 9, ground := Go.Ground.phase }, { on := 10, ground := Go.Ground.phase }, { on := 11, ground := Go.Ground.phase }, { on := 12, ground := Go.Ground.phase }, { on := 13, ground := Go.Ground.phase }, { on := 14, ground := Go.Ground.phase }, { on := 15, ground := Go.Ground.phase }], guard := none }) (v := .bool true) rfl rfl (by kernel_rfl) (by kernel_rfl) (by kernel_rfl) (by kernel_rfl) (fun _ _ _ h => h) (Or.inl ⟨by kernel_rfl, ?_⟩) (HS6.out _ HB6.out.drew) ?_
  · (intro X hX; obtain ⟨y0, y1, y2, y3, y4, y5⟩ := dskC hX.1; obtain ⟨a0, a1, a2, a3, a4, a5, a6⟩ := actC (q := ⟨kind, on, name, dest, data, n, qsa, qsn, qsc⟩) hX.2; simp only at a0 a1 a2 a3 a4 a5 a6 <;> (go_simp; try (with_reducible rfl)))
  (try simp only [Act.put, List.setIfInBounds_toArray, List.set_cons_zero, List.set_cons_succ])
  refine wpAnyN_take (i := 4) (oi := { dst := some 55, op := Go.Op.move (Go.Operand.tmp 54), type := 4, pos := "law.go:122", after := #[{ on := 3, ground := Go.Ground.data }], guard := none }) (oL := { dst := some 7, op := Go.Op.assign (Go.Operand.tmp 65), type := 4, pos := "law.go:122", after := #[{ on := 14, ground := Go.Ground.data }, { on := 15, ground := Go.Ground.chain }, { on := 0, ground := Go.Ground.phase }, { on := 1, ground := Go.Ground.phase }, { on := 2, ground := Go.Ground.phase }, { on := 3, ground := Go.Ground.phase }, { on := 4, ground := Go.Ground.phase }, { on := 5, ground := Go.Ground.phase }, { on := 6, ground := Go.Ground.phase }, { on := 7, ground := Go.Ground.phase }, { on := 8, ground := Go.Ground.phase }, { on := 9, ground := Go.Ground.phase }, { on := 10, ground := Go.Ground.phase }, { on := 11, ground := Go.Ground.phase }, { on := 12, ground := Go.Ground.phase }, { on := 13, ground := Go.Ground.phase }, { on := 14, ground := Go.Ground.phase }, { on := 15, ground := Go.Ground.phase }], guard := none }) (v := .bool true) rfl rfl (by kernel_rfl) (by kernel_rfl) (by kernel_rfl) (by kernel_rfl) (fun _ _ _ h => h) (Or.inl ⟨by kernel_rfl, ?_⟩) (HS6.out _ HB6.out.drew) ?_
  · (intro X hX; obtain ⟨y0, y1, y2, y3, y4, y5⟩ := dskC hX.1; obtain ⟨a0, a1, a2, a3, a4, a5, a6⟩ := actC (q := ⟨kind, on, name, dest, data, n, qsa, qsn, qsc⟩) hX.2; simp only at a0 a1 a2 a3 a4 a5 a6 <;> (go_simp; try (with_reducible rfl)))
  (try simp only [Act.put, List.setIfInBounds_toArray, List.set_cons_zero, List.set_cons_succ])
  refine wpAnyN_take (i := 5) (oi := { dst := some 56, op := Go.Op.move (Go.Operand.tmp 13), type := 26, pos := "law.go:122", after := #[{ on := 4, ground := Go.Ground.guard }], guard := some (4, true) }) (oL := { dst := some 7, op := Go.Op.assign (Go.Operand.tmp 65), type := 4, pos := "law.go:122", after := #[{ on := 14, ground := Go.Ground.data }, { on := 15, ground := Go.Ground.chain }, { on := 0, ground := Go.Ground.phase }, { on := 1, ground := Go.Ground.phase }, { on := 2, ground := Go.Ground.phase }, { on := 3, ground := Go.Ground.phase }, { on := 4, ground := Go.Ground.phase }, { on := 5, ground := Go.Ground.phase }, { on := 6, ground := Go.Ground.phase }, { on := 7, ground := Go.Ground.phase }, { on := 8, ground := Go.Ground.phase }, { on := 9, ground := Go.Ground.phase }, { on := 10, ground := Go.Ground.phase }, { on := 11, ground := Go.Ground.phase }, { on := 12, ground := Go.Ground.phase }, { on := 13, ground := Go.Ground.phase }, { on := 14, ground := Go.Ground.phase }, { on := 15, ground := Go.Ground.phase }], guard := none }) (v := er) rfl rfl (by kernel_rfl) (by kernel_rfl) (by kernel_rfl) (by kernel_rfl) (fun _ _ _ h => h) (Or.inl ⟨by kernel_rfl, ?_⟩) (HS6.out _ HB6.out.drew) ?_
  · (intro X hX; obtain ⟨y0, y1, y2, y3, y4, y5⟩ := dskC hX.1; obtain ⟨a0, a1, a2, a3, a4, a5, a6⟩ := actC (q := ⟨kind, on, name, dest, data, n, qsa, qsn, qsc⟩) hX.2; simp only at a0 a1 a2 a3 a4 a5 a6 <;> (go_simp; try (with_reducible rfl)))
  (try simp only [Act.put, List.setIfInBounds_toArray, List.set_cons_zero, List.set_cons_succ])
  refine wpAnyN_take (i := 6) (oi := { dst := some 57, op := Go.Op.move (Go.Operand.tmp 10), type := 3, pos := "law.go:122", after := #[{ on := 4, ground := Go.Ground.guard }], guard := some (4, true) }) (oL := { dst := some 7, op := Go.Op.assign (Go.Operand.tmp 65), type := 4, pos := "law.go:122", after := #[{ on := 14, ground := Go.Ground.data }, { on := 15, ground := Go.Ground.chain }, { on := 0, ground := Go.Ground.phase }, { on := 1, ground := Go.Ground.phase }, { on := 2, ground := Go.Ground.phase }, { on := 3, ground := Go.Ground.phase }, { on := 4, ground := Go.Ground.phase }, { on := 5, ground := Go.Ground.phase }, { on := 6, ground := Go.Ground.phase }, { on := 7, ground := Go.Ground.phase }, { on := 8, ground := Go.Ground.phase }, { on := 9, ground := Go.Ground.phase }, { on := 10, ground := Go.Ground.phase }, { on := 11, ground := Go.Ground.phase }, { on := 12, ground := Go.Ground.phase }, { on := 13, ground := Go.Ground.phase }, { on := 14, ground := Go.Ground.phase }, { on := 15, ground := Go.Ground.phase }], guard := none }) (v := .int .i64 code) rfl rfl (by kernel_rfl) (by kernel_rfl) (by kernel_rfl) (by kernel_rfl) (fun _ _ _ h => h) (Or.inl ⟨by kernel_rfl, ?_⟩) (HS6.out _ HB6.out.drew) ?_
  · (intro X hX; obtain ⟨y0, y1, y2, y3, y4, y5⟩ := dskC hX.1; obtain ⟨a0, a1, a2, a3, a4, a5, a6⟩ := actC (q := ⟨kind, on, name, dest, data, n, qsa, qsn, qsc⟩) hX.2; simp only at a0 a1 a2 a3 a4 a5 a6 <;> (go_simp; try (with_reducible rfl)))
  (try simp only [Act.put, List.setIfInBounds_toArray, List.set_cons_zero, List.set_cons_succ])
  refine wpAnyN_take (i := 7) (oi := { dst := some 58, op := Go.Op.fieldAddr 38 (Go.Operand.tmp 5) 0, type := 0, pos := "law.go:122", after := #[{ on := 4, ground := Go.Ground.guard }], guard := some (4, true) }) (oL := { dst := some 7, op := Go.Op.assign (Go.Operand.tmp 65), type := 4, pos := "law.go:122", after := #[{ on := 14, ground := Go.Ground.data }, { on := 15, ground := Go.Ground.chain }, { on := 0, ground := Go.Ground.phase }, { on := 1, ground := Go.Ground.phase }, { on := 2, ground := Go.Ground.phase }, { on := 3, ground := Go.Ground.phase }, { on := 4, ground := Go.Ground.phase }, { on := 5, ground := Go.Ground.phase }, { on := 6, ground := Go.Ground.phase }, { on := 7, ground := Go.Ground.phase }, { on := 8, ground := Go.Ground.phase }, { on := 9, ground := Go.Ground.phase }, { on := 10, ground := Go.Ground.phase }, { on := 11, ground := Go.Ground.phase }, { on := 12, ground := Go.Ground.phase }, { on := 13, ground := Go.Ground.phase }, { on := 14, ground := Go.Ground.phase }, { on := 15, ground := Go.Ground.phase }], guard := none }) (v := .pointer (some ⟨w.heap.size + 1, 0, none⟩)) rfl rfl (by kernel_rfl) (by kernel_rfl) (by kernel_rfl) (by kernel_rfl) (fun _ _ _ h => h) (Or.inl ⟨by kernel_rfl, ?_⟩) (HS6.out _ HB6.out.drew) ?_
  · (intro X hX; obtain ⟨y0, y1, y2, y3, y4, y5⟩ := dskC hX.1; obtain ⟨a0, a1, a2, a3, a4, a5, a6⟩ := actC (q := ⟨kind, on, name, dest, data, n, qsa, qsn, qsc⟩) hX.2; simp only at a0 a1 a2 a3 a4 a5 a6 <;> (go_simp; try (with_reducible rfl)))
  (try simp only [Act.put, List.setIfInBounds_toArray, List.set_cons_zero, List.set_cons_succ])
  refine wpAnyN_take (i := 8) (oi := { dst := some 59, op := Go.Op.load 3 (Go.Operand.tmp 58), type := 3, pos := "law.go:122", after := #[{ on := 7, ground := Go.Ground.data }, { on := 4, ground := Go.Ground.guard }], guard := some (4, true) }) (oL := { dst := some 7, op := Go.Op.assign (Go.Operand.tmp 65), type := 4, pos := "law.go:122", after := #[{ on := 14, ground := Go.Ground.data }, { on := 15, ground := Go.Ground.chain }, { on := 0, ground := Go.Ground.phase }, { on := 1, ground := Go.Ground.phase }, { on := 2, ground := Go.Ground.phase }, { on := 3, ground := Go.Ground.phase }, { on := 4, ground := Go.Ground.phase }, { on := 5, ground := Go.Ground.phase }, { on := 6, ground := Go.Ground.phase }, { on := 7, ground := Go.Ground.phase }, { on := 8, ground := Go.Ground.phase }, { on := 9, ground := Go.Ground.phase }, { on := 10, ground := Go.Ground.phase }, { on := 11, ground := Go.Ground.phase }, { on := 12, ground := Go.Ground.phase }, { on := 13, ground := Go.Ground.phase }, { on := 14, ground := Go.Ground.phase }, { on := 15, ground := Go.Ground.phase }], guard := none }) (v := .int .i64 kind) rfl rfl (by kernel_rfl) (by kernel_rfl) (by kernel_rfl) (by kernel_rfl) (fun _ _ _ h => h) (Or.inl ⟨by kernel_rfl, ?_⟩) (HS6.out _ HB6.out.drew) ?_
  · (intro X hX; obtain ⟨y0, y1, y2, y3, y4, y5⟩ := dskC hX.1; obtain ⟨a0, a1, a2, a3, a4, a5, a6⟩ := actC (q := ⟨kind, on, name, dest, data, n, qsa, qsn, qsc⟩) hX.2; simp only at a0 a1 a2 a3 a4 a5 a6 <;> (go_simp; try (with_reducible rfl)))
  (try simp only [Act.put, List.setIfInBounds_toArray, List.set_cons_zero, List.set_cons_succ])
  refine wpAnyN_take (i := 10) (oi := { dst := some 61, op := Go.Op.fieldAddr 38 (Go.Operand.tmp 5) 2, type := 0, pos := "law.go:122", after := #[{ on := 4, ground := Go.Ground.guard }], guard := some (4, true) }) (oL := { dst := some 7, op := Go.Op.assign (Go.Operand.tmp 65), type := 4, pos := "law.go:122", after := #[{ on := 14, ground := Go.Ground.data }, { on := 15, ground := Go.Ground.chain }, { on := 0, ground := Go.Ground.phase }, { on := 1, ground := Go.Ground.phase }, { on := 2, ground := Go.Ground.phase }, { on := 3, ground := Go.Ground.phase }, { on := 4, ground := Go.Ground.phase }, { on := 5, ground := Go.Ground.phase }, { on := 6, ground := Go.Ground.phase }, { on := 7, ground := Go.Ground.phase }, { on := 8, ground := Go.Ground.phase }, { on := 9, ground := Go.Ground.phase }, { on := 10, ground := Go.Ground.phase }, { on := 11, ground := Go.Ground.phase }, { on := 12, ground := Go.Ground.phase }, { on := 13, ground := Go.Ground.phase }, { on := 14, ground := Go.Ground.phase }, { on := 15, ground := Go.Ground.phase }], guard := none }) (v := .pointer (some ⟨w.heap.size + 1, 2, none⟩)) rfl rfl (by kernel_rfl) (by kernel_rfl) (by kernel_rfl) (by kernel_rfl) (fun _ _ _ h => h) (Or.inl ⟨by kernel_rfl, ?_⟩) (HS6.out _ HB6.out.drew) ?_
  · (intro X hX; obtain ⟨y0, y1, y2, y3, y4, y5⟩ := dskC hX.1; obtain ⟨a0, a1, a2, a3, a4, a5, a6⟩ := actC (q := ⟨kind, on, name, dest, data, n, qsa, qsn, qsc⟩) hX.2; simp only at a0 a1 a2 a3 a4 a5 a6 <;> (go_simp; try (with_reducible rfl)))
  (try simp only [Act.put, List.setIfInBounds_toArray, List.set_cons_zero, List.set_cons_succ])
  refine wpAnyN_take (i := 11) (oi := { dst := some 62, op := Go.Op.load 9 (Go.Operand.tmp 61), type := 9, pos := "law.go:122", after := #[{ on := 10, ground := Go.Ground.data }, { on := 4, ground := Go.Ground.guard }], guard := some (4, true) }) (oL := { dst := some 7, op := Go.Op.assign (Go.Operand.tmp 65), type := 4, pos := "law.go:122", after := #[{ on := 14, ground := Go.Ground.data }, { on := 15, ground := Go.Ground.chain }, { on := 0, ground := Go.Ground.phase }, { on := 1, ground := Go.Ground.phase }, { on := 2, ground := Go.Ground.phase }, { on := 3, ground := Go.Ground.phase }, { on := 4, ground := Go.Ground.phase }, { on := 5, ground := Go.Ground.phase }, { on := 6, ground := Go.Ground.phase }, { on := 7, ground := Go.Ground.phase }, { on := 8, ground := Go.Ground.phase }, { on := 9, ground := Go.Ground.phase }, { on := 10, ground := Go.Ground.phase }, { on := 11, ground := Go.Ground.phase }, { on := 12, ground := Go.Ground.phase }, { on := 13, ground := Go.Ground.phase }, { on := 14, ground := Go.Ground.phase }, { on := 15, ground := Go.Ground.phase }], guard := none }) (v := .string name) rfl rfl (by kernel_rfl) (by kernel_rfl) (by kernel_rfl) (by kernel_rfl) (fun _ _ _ h => h) (Or.inl ⟨by kernel_rfl, ?_⟩) (HS6.out _ HB6.out.drew) ?_
  · (intro X hX; obtain ⟨y0, y1, y2, y3, y4, y5⟩ := dskC hX.1; obtain ⟨a0, a1, a2, a3, a4, a5, a6⟩ := actC (q := ⟨kind, on, name, dest, data, n, qsa, qsn, qsc⟩) hX.2; simp only at a0 a1 a2 a3 a4 a5 a6 <;> (go_simp; try (with_reducible rfl)))
  (try simp only [Act.put, List.setIfInBounds_toArray, List.set_cons_zero, List.set_cons_succ])
  refine wpAnyN_take (i := 12) (oi := { dst := some 63, op := Go.Op.move (Go.Operand.tmp 11), type := 3, pos := "law.go:122", after := #[{ on := 4, ground := Go.Ground.guard }], guard := some (4, true) }) (oL := { dst := some 7, op := Go.Op.assign (Go.Operand.tmp 65), type := 4, pos := "law.go:122", after := #[{ on := 14, ground := Go.Ground.data }, { on := 15, ground := Go.Ground.chain }, { on := 0, ground := Go.Ground.phase }, { on := 1, ground := Go.Ground.phase }, { on := 2, ground := Go.Ground.phase }, { on := 3, ground := Go.Ground.phase }, { on := 4, ground := Go.Ground.phase }, { on := 5, ground := Go.Ground.phase }, { on := 6, ground := Go.Ground.phase }, { on := 7, ground := Go.Ground.phase }, { on := 8, ground := Go.Ground.phase }, { on := 9, ground := Go.Ground.phase }, { on := 10, ground := Go.Ground.phase }, { on := 11, ground := Go.Ground.phase }, { on := 12, ground := Go.Ground.phase }, { on := 13, ground := Go.Ground.phase }, { on := 14, ground := Go.Ground.phase }, { on := 15, ground := Go.Ground.phase }], guard := none }) (v := .int .i64 stp) rfl rfl (by kernel_rfl) (by kernel_rfl) (by kernel_rfl) (by kernel_rfl) (fun _ _ _ h => h) (Or.inl ⟨by kernel_rfl, ?_⟩) (HS6.out _ HB6.out.drew) ?_
  · (intro X hX; obtain ⟨y0, y1, y2, y3, y4, y5⟩ := dskC hX.1; obtain ⟨a0, a1, a2, a3, a4, a5, a6⟩ := actC (q := ⟨kind, on, name, dest, data, n, qsa, qsn, qsc⟩) hX.2; simp only at a0 a1 a2 a3 a4 a5 a6 <;> (go_simp; try (with_reducible rfl)))
  (try simp only [Act.put, List.setIfInBounds_toArray, List.set_cons_zero, List.set_cons_succ])
  refine wpAnyN_one (i := 9) (o := { dst := some 60, op := Go.Op.call { callee := Go.Callee.value (Go.Operand.func 19), args := #[Go.Operand.tmp 59], argTypes := #[3] }, type := 9, pos := "law.go:122", after := #[{ on := 8, ground := Go.Ground.data }, { on := 4, ground := Go.Ground.chain }, { on := 4, ground := Go.Ground.guard }], guard := some (4, true) }) (by kernel_rfl) rfl (fun K hK => ?_)
  go_simp
  refine (HW2.out _ HB6.out.drew).mono ?_
  rintro e w7 ⟨rfl, hw7⟩
  have Hw7 := Lib.hid hw7
  clear hw7
  refine hK.out _ _ (fun _ => (HS6.out _ Hw7.out)) ?_
  clear hK K
  (try simp only [Act.put, List.setIfInBounds_toArray, List.set_cons_zero, List.set_cons_succ])
  refine wpAnyN_one (i := 13) (o := { dst := some 64, op := Go.Op.call { callee := Go.Callee.value (Go.Operand.func 18), args := #[Go.Operand.tmp 56, Go.Operand.tmp 57, Go.Operand.tmp 60, Go.Operand.tmp 62, Go.Operand.tmp 63], argTypes := #[26, 3, 9, 9, 3] }, type := 4, pos := "law.go:122", after := #[{ on := 5, ground := Go.Ground.data }, { on := 6, ground := Go.Ground.data }, { on := 9, ground := Go.Ground.data }, { on := 11, ground := Go.Ground.data }, { on := 12, ground := Go.Ground.data }, { on := 9, ground := Go.Ground.chain }, { on := 4, ground := Go.Ground.guard }], guard := some (4, true) }) (by kernel_rfl) rfl (fun K hK => ?_)
  go_simp
  refine (HT2.out _ Hw7.out).mono ?_
  rintro e w8 ⟨rfl, hw8⟩
  have Hw8 := Lib.hid hw8
  clear hw8
  refine hK.out _ _ (fun _ => (HS6.out _ Hw8.out)) ?_
  clear hK K
  (try simp only [Act.put, List.setIfInBounds_toArray, List.set_cons_zero, List.set_cons_succ])
  refine wpAnyN_take (i := 14) (oi := { dst := some 65, op := Go.Op.pick (Go.Operand.tmp 55) (Go.Operand.tmp 64) (Go.Operand.const (Go.Value.bool false)), type := 4, pos := "law.go:122", after := #[{ on := 4, ground := Go.Ground.data }, { on := 13, ground := Go.Ground.data }, { on := 15, ground := Go.Ground.gcOnly Go.Departure.lateStores }], guard := none }) (oL := { dst := some 7, op := Go.Op.assign (Go.Operand.tmp 65), type := 4, pos := "law.go:122", after := #[{ on := 14, ground := Go.Ground.data }, { on := 15, ground := Go.Ground.chain }, { on := 0, ground := Go.Ground.phase }, { on := 1, ground := Go.Ground.phase }, { on := 2, ground := Go.Ground.phase }, { on := 3, ground := Go.Ground.phase }, { on := 4, ground := Go.Ground.phase }, { on := 5, ground := Go.Ground.phase }, { on := 6, ground := Go.Ground.phase }, { on := 7, ground := Go.Ground.phase }, { on := 8, ground := Go.Ground.phase }, { on := 9, ground := Go.Ground.phase }, { on := 10, ground := Go.Ground.phase }, { on := 11, ground := Go.Ground.phase }, { on := 12, ground := Go.Ground.phase }, { on := 13, ground := Go.Ground.phase }, { on := 14, ground := Go.Ground.phase }, { on := 15, ground := Go.Ground.phase }], guard := none }) (v := .bool true) rfl rfl (by kernel_rfl) (by kernel_rfl) (by kernel_rfl) (by kernel_rfl) (fun _ _ _ h => h) (Or.inl ⟨by kernel_rfl, ?_⟩) (HS6.out _ Hw8.out) ?_
  · (intro X hX; obtain ⟨y0, y1, y2, y3, y4, y5⟩ := dskC hX.1; obtain ⟨a0, a1, a2, a3, a4, a5, a6⟩ := actC (q := ⟨kind, on, name, dest, data, n, qsa, qsn, qsc⟩) hX.2; simp only at a0 a1 a2 a3 a4 a5 a6 <;> (go_simp; try (with_reducible rfl)))
  (try simp only [Act.put, List.setIfInBounds_toArray, List.set_cons_zero, List.set_cons_succ])
  refine wpAnyN_one (i := 15) (o := { dst := none, op := Go.Op.store 32 (Go.Operand.tmp 6) (Go.Operand.tmp 51), type := 0, pos := "law.go:122", after := #[{ on := 0, ground := Go.Ground.data }, { on := 13, ground := Go.Ground.chain }, { on := 0, ground := Go.Ground.phase }, { on := 1, ground := Go.Ground.textOnly Go.Departure.lateStores }, { on := 2, ground := Go.Ground.textOnly Go.Departure.lateStores }, { on := 3, ground := Go.Ground.textOnly Go.Departure.lateStores }, { on := 4, ground := Go.Ground.textOnly Go.Departure.lateStores }, { on := 5, ground := Go.Ground.textOnly Go.Departure.lateStores }, { on := 6, ground := Go.Ground.textOnly Go.Departure.lateStores }, { on := 7, ground := Go.Ground.textOnly Go.Departure.lateStores }, { on := 8, ground := Go.Ground.textOnly Go.Departure.lateStores }, { on := 9, ground := Go.Ground.textOnly Go.Departure.lateStoresUnsure }, { on := 10, ground := Go.Ground.textOnly Go.Departure.lateStores }, { on := 11, ground := Go.Ground.textOnly Go.Departure.lateStores }, { on := 12, ground := Go.Ground.textOnly Go.Departure.lateStores }, { on := 13, ground := Go.Ground.textOnly Go.Departure.lateStoresUnsure }, { on := 14, ground := Go.Ground.textOnly Go.Departure.lateStores }], guard := none }) (by kernel_rfl) rfl (fun K hK => ?_)
  refine wp_store_row 32 _ _ rfl (w.heap.size + 1 + 1) #[.slice ga gl gc, .int .i64 (S.quota : Int), .int .i64 Rst, .slice ha hl hc, .int .i64 Rsi, .bool Rdn] rfl rfl 32 _ (HR6.out _ Hw8.out) Tryz.sizeRD rfl (by simp [Value.oneCell']) ?_
  refine hK.out _ _ (fun _ => (HS9.out _ Hw8.out _)) ?_
  clear hK K
  (try simp only [Act.put])
  refine wpAnyN_one (i := 16) (o := { dst := some 7, op := Go.Op.assign (Go.Operand.tmp 65), type := 4, pos := "law.go:122", after := #[{ on := 14, ground := Go.Ground.data }, { on := 15, ground := Go.Ground.chain }, { on := 0, ground := Go.Ground.phase }, { on := 1, ground := Go.Ground.phase }, { on := 2, ground := Go.Ground.phase }, { on := 3, ground := Go.Ground.phase }, { on := 4, ground := Go.Ground.phase }, { on := 5, ground := Go.Ground.phase }, { on := 6, ground := Go.Ground.phase }, { on := 7, ground := Go.Ground.phase }, { on := 8, ground := Go.Ground.phase }, { on := 9, ground := Go.Ground.phase }, { on := 10, ground := Go.Ground.phase }, { on := 11, ground := Go.Ground.phase }, { on := 12, ground := Go.Ground.phase }, { on := 13, ground := Go.Ground.phase }, { on := 14, ground := Go.Ground.phase }, { on := 15, ground := Go.Ground.phase }], guard := none }) (by kernel_rfl) rfl (fun K hK => ?_)
  go_simp
  refine hK.out _ _ (fun e => absurd (e.symm.trans (by kernel_rfl) : false = true) Bool.false_ne_true) ?_
  clear hK K
  (try simp only [Act.put, List.setIfInBounds_toArray, List.set_cons_zero, List.set_cons_succ])
  refine wpAnyN_of_H (S' := fun _ => True) _ _ _ _ (by kernel_rfl) ?_
  refine wpAnyH_done (by kernel_rfl) ?_ _
  go_wp2_with fail
  refine bodyPost_ret (res2 rfl _ _ (w.heap.size + 1 + 1) 32 #[.slice ga gl gc, .int .i64 (S.quota : Int), .int .i64 Rst, .slice ha hl hc, .int .i64 Rsi, .bool Rdn] (0, 0) _ rfl (setRow_heap _ _ _ _ _ _ (HR6.out _ Hw8.out)) Tryz.underlying32 rfl Tryz.sizeRD) rfl ?_
  exact HEnd.out _ _ Hw8.out
end Go.Proofs.YtgafomknpdnfcaaGreatDoor
