/- DiskRenames: what each call leaves. -/
import Derived.Test.YtbnicjpkfldcdaaDoorD9zb
import Derived.Test.YtbnicjpkfldcdaaDoorD9xa
namespace Go.Proofs.YtbnicjpkfldcdaaDoor
open Go.RowKit Go.Lib

def bx : ByteArray := ⟨#[98, 111, 120]⟩
def tm : ByteArray := ⟨#[98, 111, 120, 46, 116, 109, 112]⟩
def nb : ByteArray := ⟨#[110, 111, 98, 111, 100, 121]⟩
theorem bx_tm : bx ≠ tm := by decide
theorem tm_bx : tm ≠ bx := by decide
theorem bx_nb : bx ≠ nb := by decide
theorem in1 : inI 1 := by unfold inI; decide
theorem in2 : inI 2 := by unfold inI; decide
def dur (n : ByteArray) (l : List UInt8) : PF := ⟨n, l, l.length⟩
theorem torn_dur (z : Int) (n : ByteArray) (l : List UInt8) : tornP z (dur n l) = dur n l := by
  have e : leftP z (dur n l) = l.length := by
    unfold leftP dur wth
    simp only
    omega
  unfold tornP
  rw [e]
  simp [dur]
theorem rn1 {A : Whys} {w0 w : World} {d : Nat} (h : Dk A w0 d ⟨100000, 0, true, []⟩ [] [] w) (old : ByteArray) (ho : old.size ≤ 20000) :
    Calls Tryd.prog 16 #[.pointer (some ⟨d, 0, none⟩), .string bx, .string old] w fun e w' => e = .returned .nilIface ∧ Dk A w0 d ⟨100000, 1, true, []⟩ [⟨bx, L old, 0⟩] [] w' := by
  have hc : appCode ⟨100000, 0, true, []⟩ [] bx old = 0 := by
    unfold appCode
    rw [if_pos (by decide), if_neg (by simp [usedP]; omega)]
  refine (AppendD h (ok_nil _ _ _) (by decide) bx old (by decide)).mono ?_
  rintro e w' ⟨r, K', rfl, hD, hE⟩
  rw [hc] at hD hE
  obtain ⟨rfl, rfl⟩ := hE.ok (by decide)
  exact ⟨rfl, hD⟩
theorem rn2 {A : Whys} {w0 w : World} {d : Nat} (old : List UInt8) (h : Dk A w0 d ⟨100000, 1, true, []⟩ [⟨bx, old, 0⟩] [] w) :
    Calls Tryd.prog 22 #[.pointer (some ⟨d, 0, none⟩), .string bx] w fun e w' => e = .returned .nilIface ∧ Dk A w0 d ⟨100000, 2, true, []⟩ [dur bx old] [] w' := by
  have hc : lookC [⟨bx, old, 0⟩] bx = 0 := by
    unfold lookC hasP
    rw [if_pos (by decide), if_pos (by simp)]
  have hm : modP bx syncP [⟨bx, old, 0⟩] = [dur bx old] := by simp [modP, syncP, dur]
  refine (SyncD h (ok_nil _ _ _) (by decide) bx (by decide)).mono ?_
  rintro e w' ⟨r, K', rfl, hD, hE⟩
  rw [hc] at hD hE
  rw [hm] at hD
  obtain ⟨rfl, rfl⟩ := hE.ok (by decide)
  exact ⟨rfl, hD⟩
theorem rn3 {A : Whys} {w0 w : World} {d : Nat} (old : List UInt8) (h : Dk A w0 d ⟨100000, 2, true, []⟩ [dur bx old] [] w) (ho : old.length ≤ 20000) (data : ByteArray) (hd : data.size ≤ 20000) :
    Calls Tryd.prog 16 #[.pointer (some ⟨d, 0, none⟩), .string tm, .string data] w fun e w' => e = .returned .nilIface ∧ Dk A w0 d ⟨100000, 3, true, []⟩ [dur bx old, ⟨tm, L data, 0⟩] [] w' := by
  have hc : appCode ⟨100000, 2, true, []⟩ [dur bx old] tm data = 0 := by
    unfold appCode
    rw [if_pos (by decide), if_neg (by simp [usedP, dur]; omega)]
  have hg : growP tm (L data) [dur bx old] = [dur bx old, ⟨tm, L data, 0⟩] := by
    have : hasP tm [dur bx old] = false := by
      simp [hasP, dur, bx_tm]
    unfold growP
    rw [this]
    rfl
  refine (AppendD h (ok_nil _ _ _) (by decide) tm data (by decide)).mono ?_
  rintro e w' ⟨r, K', rfl, hD, hE⟩
  rw [hc] at hD hE
  rw [hg] at hD
  obtain ⟨rfl, rfl⟩ := hE.ok (by decide)
  exact ⟨rfl, hD⟩
theorem rn4 {A : Whys} {w0 w : World} {d : Nat} (old data : List UInt8) (h : Dk A w0 d ⟨100000, 3, true, []⟩ [dur bx old, ⟨tm, data, 0⟩] [] w) :
    Calls Tryd.prog 22 #[.pointer (some ⟨d, 0, none⟩), .string tm] w fun e w' => e = .returned .nilIface ∧ Dk A w0 d ⟨100000, 4, true, []⟩ [dur bx old, dur tm data] [] w' := by
  have hc : lookC [dur bx old, ⟨tm, data, 0⟩] tm = 0 := by
    unfold lookC hasP
    rw [if_pos (by decide), if_pos (by simp)]
  have hm : modP tm syncP [dur bx old, ⟨tm, data, 0⟩] = [dur bx old, dur tm data] := by simp [modP, syncP, dur, bx_tm]
  refine (SyncD h (ok_nil _ _ _) (by decide) tm (by decide)).mono ?_
  rintro e w' ⟨r, K', rfl, hD, hE⟩
  rw [hc] at hD hE
  rw [hm] at hD
  obtain ⟨rfl, rfl⟩ := hE.ok (by decide)
  exact ⟨rfl, hD⟩
theorem look_tm (old data : List UInt8) : renC [dur bx old, dur tm data] tm bx = 0 := by
  unfold renC lookC hasP
  rw [if_pos (by decide), if_pos (by decide), if_pos (by simp [dur])]
theorem move_tm (old data : List UInt8) : moveP tm bx [dur bx old, dur tm data] = [dur bx data] := by
  unfold moveP dropP
  rw [if_neg tm_bx]
  simp [dur, bx_tm, tm_bx]
/-- The files behind the Rename. -/
def renP (done : Prop) [Decidable done] (old data : List UInt8) : List PF := if done then [dur bx data] else [dur bx old, dur tm data]
theorem renP_torn (done : Prop) [Decidable done] (old data : List UInt8) (z : Int) : (renP done old data).map (tornP z) = renP done old data := by
  unfold renP
  split <;> simp [torn_dur]
def okI (y z : Int) : Prop := inI y ∧ inI z
/-- A stop at the Rename. -/
theorem rn5 {A : Whys} {w0 w : World} {d : Nat} (old data : List UInt8) (y z : Int) (hy : okI y z) (h : Dk A w0 d ⟨100000, 4, true, [(1, y, z)]⟩ [dur bx old, dur tm data] [] w) :
    Calls Tryd.prog 23 #[.pointer (some ⟨d, 0, none⟩), .string tm, .string bx] w fun e w' => ∃ p, e = .returned (failV p) ∧ Dk A w0 d ⟨100000, 5, false, []⟩ (renP (1 ≤ y) old data) [(p, failObj A sRename tm 5 93)] w' := by
  refine (RenameD h (fun s hs => by simp at hs; subst hs; exact ⟨in1, hy.1, hy.2⟩) (by show (4 : Nat) < 1000000000; decide) tm bx (by decide) (by decide)).mono ?_
  rintro e w' ⟨r, K', rfl, hD, hE⟩
  rw [look_tm] at hD hE
  rw [move_tm] at hD
  obtain ⟨p, rfl, rfl⟩ := hE.bad (by
    unfold errC DS.due
    simp)
  refine ⟨p, rfl, ?_⟩
  have e1 : nextF ⟨100000, 4, true, [(1, y, z)]⟩ 0 [dur bx old, dur tm data] [dur bx data] (fun y => if 1 ≤ y then [dur bx data] else [dur bx old, dur tm data]) = renP (1 ≤ y) old data := renP_torn (1 ≤ y) old data z
  rw [e1] at hD
  exact hD
/-- No stop at the Rename: it comes with the next operation. -/
theorem rn6 {A : Whys} {w0 w : World} {d : Nat} (old data : List UInt8) (y z : Int) (hy : okI y z) (h : Dk A w0 d ⟨100000, 4, true, [(2, y, z)]⟩ [dur bx old, dur tm data] [] w) :
    Calls Tryd.prog 23 #[.pointer (some ⟨d, 0, none⟩), .string tm, .string bx] w fun e w' => e = .returned .nilIface ∧ Dk A w0 d ⟨100000, 5, true, [(1, y, z)]⟩ [dur bx data] [] w' := by
  refine (RenameD h (fun s hs => by simp at hs; subst hs; exact ⟨in2, hy.1, hy.2⟩) (by show (4 : Nat) < 1000000000; decide) tm bx (by decide) (by decide)).mono ?_
  rintro e w' ⟨r, K', rfl, hD, hE⟩
  rw [look_tm] at hD hE
  rw [move_tm] at hD
  obtain ⟨rfl, rfl⟩ := hE.ok (by
    unfold errC DS.due
    simp)
  exact ⟨rfl, hD⟩
/-- Remove of what is not there: on a machine that has stopped, and with the stop. -/
theorem rn7 {A : Whys} {w0 w : World} {d : Nat} (P : List PF) (K : List (Nat × Obj)) (h : Dk A w0 d ⟨100000, 5, false, []⟩ P K w) :
    Calls Tryd.prog 24 #[.pointer (some ⟨d, 0, none⟩), .string nb] w fun e w' => ∃ p, e = .returned (failV p) ∧ Dk A w0 d ⟨100000, 5, false, []⟩ P ((p, failObj A sRemove nb 0 93) :: K) w' := by
  refine (RemoveD h (ok_nil _ _ _) (by decide) nb (by decide)).mono ?_
  rintro e w' ⟨r, K', rfl, hD, hE⟩
  obtain ⟨p, rfl, rfl⟩ := hE.bad (by unfold errC; simp)
  exact ⟨p, rfl, hD⟩
theorem rn8 {A : Whys} {w0 w : World} {d : Nat} (data : List UInt8) (y z : Int) (hy : okI y z) (h : Dk A w0 d ⟨100000, 5, true, [(1, y, z)]⟩ [dur bx data] [] w) :
    Calls Tryd.prog 24 #[.pointer (some ⟨d, 0, none⟩), .string nb] w fun e w' => ∃ p, e = .returned (failV p) ∧ Dk A w0 d ⟨100000, 6, false, []⟩ [dur bx data] [(p, failObj A sRemove nb 6 93)] w' := by
  have hc : lookC [dur bx data] nb = 91 := by
    unfold lookC hasP
    rw [if_pos (by decide), if_neg (by simp [dur, bx_nb])]
  refine (RemoveD h (fun s hs => by simp at hs; subst hs; exact ⟨in1, hy.1, hy.2⟩) (by show (5 : Nat) < 1000000000; decide) nb (by decide)).mono ?_
  rintro e w' ⟨r, K', rfl, hD, hE⟩
  rw [hc] at hD hE
  obtain ⟨p, rfl, rfl⟩ := hE.bad (by unfold errC DS.due; simp)
  refine ⟨p, rfl, ?_⟩
  have e1 : ∀ G Gp, nextF ⟨100000, 5, true, [(1, y, z)]⟩ 91 [dur bx data] G Gp = [dur bx data] := fun G Gp => by
    show [dur bx data].map (tornP z) = _
    simp [torn_dur]
  rw [e1] at hD
  exact hD
theorem readT_hit {S : DS} (hr : S.runs = true) (hd : S.due = none) {P : List PF} {l : List UInt8} (hf : P.find? (fun p => decide (p.name = bx)) = some (dur bx l)) : readT S P bx = Proofs.YtbnicjpkfldcdaaDoor.S l ∧ lookC P bx = 0 := by
  have hh : hasP bx P = true := by
    unfold hasP
    rw [List.any_eq_true]
    exact ⟨_, List.mem_of_find?_eq_some hf, by simp [dur]⟩
  have hl : lookC P bx = 0 := by
    unfold lookC
    rw [if_pos (by decide), if_pos hh]
  refine ⟨?_, hl⟩
  unfold readT dataP
  rw [if_pos ⟨hr, hd, hl⟩, hf]
  rfl
theorem renP_find (done : Prop) [Decidable done] (old data : List UInt8) : (renP done old data).find? (fun p => decide (p.name = bx)) = some (dur bx (if done then data else old)) := by
  unfold renP
  split <;> simp [dur]
/-- Read, with the machine started again. -/
theorem rn9 {A : Whys} {w0 w : World} {d n : Nat} (P : List PF) (K : List (Nat × Obj)) (l : List UInt8) (hf : P.find? (fun p => decide (p.name = bx)) = some (dur bx l)) (hn : n < 1000000000) (h : Dk A w0 d ⟨100000, n, true, []⟩ P K w) :
    Calls Tryd.prog 17 #[.pointer (some ⟨d, 0, none⟩), .string bx] w fun e w' => e = .returned (.tuple #[.string (S l), .nilIface]) ∧ Dk A w0 d ⟨100000, n + 1, true, []⟩ P K w' := by
  obtain ⟨h1, h2⟩ := readT_hit (S := ⟨100000, n, true, []⟩) rfl rfl hf
  refine (ReadD h (ok_nil _ _ _) hn bx (by decide)).mono ?_
  rintro e w' ⟨r, K', rfl, hD, hE⟩
  rw [h2] at hD hE
  obtain ⟨rfl, rfl⟩ := hE.ok (by unfold errC DS.due; simp)
  exact ⟨by rw [h1], hD⟩
theorem size_tm (done : Prop) [Decidable done] (old data : List UInt8) : sizeP tm (renP done old data) = if done then -1 else (data.length : Int) := by
  unfold sizeP renP
  by_cases h : done
  · rw [if_pos h, if_pos h]
    simp [dur, bx_tm]
  · rw [if_neg h, if_neg h]
    simp [dur, bx_tm]
end Go.Proofs.YtbnicjpkfldcdaaDoor

/- DiskRenames: the walk. -/
namespace Go.Proofs.YtbnicjpkfldcdaaDoor
open Go.RowKit Go.Lib

theorem Dk.below {A : Whys} {w0 w : World} {d : Nat} {S : DS} {P : List PF} {K : List (Nat × Obj)} (h : Dk A w0 d S P K w) : Below w0.heap.size w0 w := by obtain ⟨m, sv, clk, F, _, _, hb, _⟩ := h; exact hb
theorem Dk.env {A : Whys} {w0 w : World} {d : Nat} {S : DS} {P : List PF} {K : List (Nat × Obj)} (h : Dk A w0 d S P K w) : Env A w0.heap.size w := by obtain ⟨m, sv, clk, F, _, _, _, he, _⟩ := h; exact he
theorem and_one (x : Int) : bits .and .i64 x 1 = 0 ∨ bits .and .i64 x 1 = 1 := by
  have key : ∀ y : BitVec 64, y &&& BitVec.ofInt 64 1 = 0#64 ∨ y &&& BitVec.ofInt 64 1 = 1#64 := by
    intro y
    have h1 : (y &&& BitVec.ofInt 64 1).toNat = y.toNat % 2 := by
      rw [BitVec.toNat_and]
      have : (BitVec.ofInt 64 1).toNat = 1 := by decide
      rw [this, Nat.and_one_is_mod]
    rcases Nat.mod_two_eq_zero_or_one y.toNat with h | h
    · exact .inl (BitVec.eq_of_toNat_eq (by rw [h1, h]; rfl))
    · exact .inr (BitVec.eq_of_toNat_eq (by rw [h1, h]; rfl))
  show IntKind.i64.wrap ((BitVec.ofInt 64 x &&& BitVec.ofInt 64 1).toNat : Int) = 0 ∨ IntKind.i64.wrap ((BitVec.ofInt 64 x &&& BitVec.ofInt 64 1).toNat : Int) = 1
  rcases key (BitVec.ofInt 64 x) with h | h
  · left; rw [h]; decide
  · right; rw [h]; decide
theorem k_two (x : Int) : wrap64 (1 + bits .and .i64 x 1) = 1 ∨ wrap64 (1 + bits .and .i64 x 1) = 2 := by
  rcases and_one x with h | h
  · left; rw [h]; unfold wrap64; decide
  · right; rw [h]; unfold wrap64; decide
theorem rnP {A : Whys} {w0 w : World} {d : Nat} {P : List PF} {K : List (Nat × Obj)} (h : Dk A w0 d ⟨100000, 4, true, []⟩ P K w) (k y z : Int) (hk : 1 ≤ k) :
    Calls Tryd.prog 6 #[.pointer (some ⟨d, 0, none⟩), .slice (some ⟨w.heap.size, 0, none⟩) 1 1] (w.alloc (.cells #[.int .i64 k, .int .i64 y, .int .i64 z] 56)) fun e w' => e = .returned (.tuple #[]) ∧ Dk A w0 d ⟨100000, 4, true, [(k, y, z)]⟩ P K w' := by
  have hh := heap_alloc_new w (.cells #[.int .i64 k, .int .i64 y, .int .i64 z] 56)
  have hp : planP [(k, y, z)] = [(k, y, z)] := by
    unfold planP
    simp [hk]
  have := PlanD h (by show 1 ≤ 100000; decide) [(k, y, z)] #[.int .i64 k, .int .i64 y, .int .i64 z] (by show 1 ≤ 1000000000; decide) (by
    intro i hi s hs
    have hi : i < 1 := hi
    obtain rfl : i = 0 := by omega
    injection hs with hs
    subst hs
    exact ⟨cell_of hh 0, cell_of hh 1, cell_of hh 2⟩) 1
  rw [hp] at this
  exact this
theorem rnRd {A : Whys} {w0 w : World} {d n : Nat} (done : Prop) [Decidable done] (old data : ByteArray) (K : List (Nat × Obj)) (hn : n < 1000000000) (h : Dk A w0 d ⟨100000, n, true, []⟩ (renP done (L old) (L data)) K w) :
    Calls Tryd.prog 17 #[.pointer (some ⟨d, 0, none⟩), .string bx] w fun e w' => e = .returned (.tuple #[.string (if done then data else old), .nilIface]) ∧ Dk A w0 d ⟨100000, n + 1, true, []⟩ (renP done (L old) (L data)) K w' := by
  have e : S (if done then L data else L old) = (if done then data else old) := by split <;> rw [S_L]
  rw [← e]
  exact rn9 _ K _ (renP_find done (L old) (L data)) hn h
end Go.Proofs.YtbnicjpkfldcdaaDoor

/- DiskCounts: a script in memory, the plan, the walk. -/
namespace Go.Proofs.YtbnicjpkfldcdaaDoor
open Go.RowKit Go.Lib

/-- One call of a script, in memory. -/
structure ActAt (W : World) (b o : Nat) (q : ActR) : Prop where
  c0 : W.cell? ⟨b, o, none⟩ = some (.int .i64 q.kind)
  c1 : W.cell? ⟨b, o + 1, none⟩ = some (.int .i64 q.on)
  c2 : W.cell? ⟨b, o + 2, none⟩ = some (.string q.name)
  c3 : W.cell? ⟨b, o + 3, none⟩ = some (.string q.dest)
  c4 : W.cell? ⟨b, o + 4, none⟩ = some (.string q.data)
  c5 : W.cell? ⟨b, o + 5, none⟩ = some (.int .i64 q.n)
  c6 : W.cell? ⟨b, o + 6, none⟩ = some (.slice q.sa q.sn q.sc)
  hname : q.name.size ≤ 140737488355328
  hdest : q.dest.size ≤ 140737488355328
/-- A script. -/
def ActsAt (W : World) (a : Option Addr) (n : Nat) : Prop := n ≤ 4611686018427387904 ∧ (0 < n → ∃ b o, a = some ⟨b, o, none⟩ ∧ b < W.heap.size ∧ ∀ i, i < n → ∃ q, ActAt W b (o + i * 7) q)
theorem ActAt.on {W W' : World} {b o : Nat} {q : ActR} (h : ActAt W b o q) (he : W'.heap[b]? = W.heap[b]?) : ActAt W' b o q := by
  have hc : ∀ j, W'.cell? ⟨b, j, none⟩ = W.cell? ⟨b, j, none⟩ := fun j => World.cell?_of_block he
  exact ⟨by rw [hc]; exact h.c0, by rw [hc]; exact h.c1, by rw [hc]; exact h.c2, by rw [hc]; exact h.c3, by rw [hc]; exact h.c4, by rw [hc]; exact h.c5, by rw [hc]; exact h.c6, h.hname, h.hdest⟩

theorem and_15 (x : Int) : ∃ o : Nat, o ≤ 15 ∧ bits .and .i64 x 15 = (o : Int) := by
  have h1 : (BitVec.ofInt 64 x &&& BitVec.ofInt 64 15).toNat = (BitVec.ofInt 64 x).toNat % 16 := by
    rw [BitVec.toNat_and]
    have : (BitVec.ofInt 64 15).toNat = 2 ^ 4 - 1 := by decide
    rw [this, Nat.and_two_pow_sub_one_eq_mod]
  refine ⟨(BitVec.ofInt 64 x).toNat % 16, by omega, ?_⟩
  show IntKind.i64.wrap ((BitVec.ofInt 64 x &&& BitVec.ofInt 64 15).toNat : Int) = _
  rw [h1]
  have : (BitVec.ofInt 64 x).toNat % 16 < 16 := Nat.mod_lt _ (by decide)
  generalize (BitVec.ofInt 64 x).toNat % 16 = r at *
  simp only [IntKind.wrap, IntKind.signed, IntKind.bits]
  simp
  omega
theorem one_16 (x : Int) : ∃ o : Nat, 1 ≤ o ∧ o ≤ 16 ∧ wrap64 (1 + bits .and .i64 x 15) = (o : Int) := by
  obtain ⟨o, ho, e⟩ := and_15 x
  refine ⟨o + 1, by omega, by omega, ?_⟩
  rw [e]
  unfold wrap64
  omega
/-- What is left of the plan behind s stops, t operations after the last of them. -/
def planL (p q s t : Nat) : List (Int × Int × Int) := if s = 0 then [((p : Int) - t, 0, 0), ((q : Int), 0, 0)] else if s = 1 then [((q : Int) - t, 0, 0)] else []
def dueL (p q s t : Nat) : Prop := (s = 0 ∧ t + 1 = p) ∨ (s = 1 ∧ t + 1 = q)
theorem in0 : inI 0 := by unfold inI; decide
theorem plan_ok (p q s t n : Nat) (hp : p ≤ 16) (hq : q ≤ 16) (ht : t ≤ 150) (r : Bool) : DS.ok ⟨5000, n, r, planL p q s t⟩ := by
  intro x hx
  have hi : ∀ a b : Nat, a ≤ 16 → b ≤ 150 → inI ((a : Int) - b) := fun a b h1 h2 => by unfold inI; omega
  have hq' : inI (q : Int) := by unfold inI; omega
  unfold planL at hx
  simp only at hx
  split at hx
  · simp at hx
    rcases hx with rfl | rfl
    · exact ⟨hi p t hp ht, in0, in0⟩
    · exact ⟨hq', in0, in0⟩
  · split at hx
    · simp at hx
      subst hx
      exact ⟨hi q t hq ht, in0, in0⟩
    · cases hx
theorem plan_quiet (p q s t n : Nat) (h0 : s = 0 → t < p) (h1 : s = 1 → t < q) (hd : ¬ dueL p q s t) (code : Int) :
    DS.next ⟨5000, n, true, planL p q s t⟩ = ⟨5000, n + 1, true, planL p q s (t + 1)⟩ ∧ errC ⟨5000, n, true, planL p q s t⟩ code = code := by
  unfold dueL at hd
  by_cases e0 : s = 0
  · subst e0
    have : (1 : Int) < (p : Int) - t := by have := h0 rfl; omega
    have e2 : (p : Int) - t - 1 = (p : Int) - ((t + 1 : Nat) : Int) := by omega
    constructor
    · simp [DS.next, DS.due, DS.tick, DS.step, planL, this, e2]
    · simp [errC, DS.due, planL, this]
  · by_cases e1 : s = 1
    · subst e1
      have : (1 : Int) < (q : Int) - t := by have := h1 rfl; omega
      have e2 : (q : Int) - t - 1 = (q : Int) - ((t + 1 : Nat) : Int) := by omega
      constructor
      · simp [DS.next, DS.due, DS.tick, DS.step, planL, this, e2]
      · simp [errC, DS.due, planL, this]
    · constructor
      · simp [DS.next, DS.due, DS.tick, DS.step, planL, e0, e1]
      · simp [errC, DS.due, planL, e0, e1]
theorem plan_due (p q s t n : Nat) (hd : dueL p q s t) (code : Int) :
    DS.next ⟨5000, n, true, planL p q s t⟩ = ⟨5000, n + 1, false, planL p q (s + 1) 0⟩ ∧ errC ⟨5000, n, true, planL p q s t⟩ code = 93 := by
  have hx : ¬ (1 : Int) < (t : Int) + 1 - t := by omega
  rcases hd with ⟨rfl, rfl⟩ | ⟨rfl, rfl⟩
  · constructor
    · simp [DS.next, DS.due, DS.tick, DS.step, planL, hx]
    · simp [errC, DS.due, planL, hx]
  · constructor
    · simp [DS.next, DS.due, DS.tick, DS.step, planL, hx]
    · simp [errC, DS.due, planL, hx]
theorem at_apart {A : Whys} {B : Nat} {w : World} (h : Env A B w) {code : Int} (hc : code ≠ 93) : A.at code ≠ A.at 93 := by
  have ha := h.apart
  simp only [List.nodup_cons, List.mem_cons, List.not_mem_nil, or_false, not_or] at ha
  obtain ⟨⟨_, _, nd, _⟩, ⟨_, md, _⟩, ⟨qd, _⟩, dr, _⟩ := ha
  have e93 : A.at 93 = A.d := rfl
  rw [e93]
  unfold Whys.at
  split
  · exact nd
  split
  · exact md
  split
  · exact qd
  exact fun e => dr e.symm
/-- errors.Is of what an operation answered. -/
theorem isK {A : Whys} {w0 w : World} {d : Nat} {S : DS} {P : List PF} {K K' : List (Nat × Obj)} {op nm : ByteArray} {step code : Int} {r : Value} (h : Dk A w0 d S P K' w) (hE : ErrK A op nm step code r K K') (hv : Bool) (hb : hv = decide (code = 93)) :
    Calls Tryd.prog 10 #[r, whyV (A.at 93)] w fun e w' => e = .returned (.bool hv) ∧ w' = w := by
  subst hb
  rcases hE with ⟨rfl, rfl, rfl⟩ | ⟨hc, p, rfl, rfl⟩
  · exact is_nil _ _
  · have h1 := IsD h (List.mem_cons_self) 93
    have e : decide (A.at code = A.at 93) = decide (code = 93) := by
      by_cases hcc : code = 93
      · subst hcc; simp
      · rw [decide_eq_false (at_apart h.env hcc), decide_eq_false hcc]
    rw [e] at h1
    exact h1
end Go.Proofs.YtbnicjpkfldcdaaDoor
