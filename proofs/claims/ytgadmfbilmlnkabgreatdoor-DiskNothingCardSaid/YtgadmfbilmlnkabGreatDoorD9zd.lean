/- DiskRenames: what each call leaves. -/
import Derived.Test.YtgadmfbilmlnkabGreatDoorD9zc
namespace Go.Proofs.YtgadmfbilmlnkabGreatDoor
open Go.RowKit Go.Lib

def bx : ByteArray := ⟨#[98, 111, 120]⟩
def tm : ByteArray := ⟨#[98, 111, 120, 46, 116, 109, 112]⟩
def nb : ByteArray := ⟨#[110, 111, 98, 111, 100, 121]⟩
theorem bx_tm : bx ≠ tm := by decide
theorem tm_bx : tm ≠ bx := by decide
theorem bx_nb : bx ≠ nb := by decide
theorem in1 : inI 1 := by unfold inI; decide
theorem in2 : inI 2 := by unfold inI; decide
def dur (n : ByteArray) (l : List UInt8) : PF := ⟨n, l, l.length⟩
theorem torn_dur (z : Int) (n : ByteArray) (l : List UInt8) : tornP z (dur n l) = dur n l := by
  have e : leftP z (dur n l) = l.length := by
    unfold leftP dur wth
    simp only
    omega
  unfold tornP
  rw [e]
  simp [dur]
theorem rn1 {A : Whys} {w0 w : World} {d : Nat} (h : Dk A w0 d ⟨100000, 0, true, []⟩ [] [] w) (old : ByteArray) (ho : old.size ≤ 20000) :
    Calls Tryz.prog 11 #[.pointer (some ⟨d, 0, none⟩), .string bx, .string old] w fun e w' => e = .returned .nilIface ∧ Dk A w0 d ⟨100000, 1, true, []⟩ [⟨bx, L old, 0⟩] [] w' := by
  have hc : appCode ⟨100000, 0, true, []⟩ [] bx old = 0 := by
    unfold appCode
    rw [if_pos (by decide), if_neg (by simp [usedP]; omega)]
  refine (AppendD h (ok_nil _ _ _) (by decide) bx old (by decide)).mono ?_
  rintro e w' ⟨r, K', rfl, hD, hE⟩
  rw [hc] at hD hE
  obtain ⟨rfl, rfl⟩ := hE.ok (by decide)
  exact ⟨rfl, hD⟩
theorem rn2 {A : Whys} {w0 w : World} {d : Nat} (old : List UInt8) (h : Dk A w0 d ⟨100000, 1, true, []⟩ [⟨bx, old, 0⟩] [] w) :
    Calls Tryz.prog 50 #[.pointer (some ⟨d, 0, none⟩), .string bx] w fun e w' => e = .returned .nilIface ∧ Dk A w0 d ⟨100000, 2, true, []⟩ [dur bx old] [] w' := by
  have hc : lookC [⟨bx, old, 0⟩] bx = 0 := by
    unfold lookC hasP
    rw [if_pos (by decide), if_pos (by simp)]
  have hm : modP bx syncP [⟨bx, old, 0⟩] = [dur bx old] := by simp [modP, syncP, dur]
  refine (SyncD h (ok_nil _ _ _) (by decide) bx (by decide)).mono ?_
  rintro e w' ⟨r, K', rfl, hD, hE⟩
  rw [hc] at hD hE
  rw [hm] at hD
  obtain ⟨rfl, rfl⟩ := hE.ok (by decide)
  exact ⟨rfl, hD⟩
theorem rn3 {A : Whys} {w0 w : World} {d : Nat} (old : List UInt8) (h : Dk A w0 d ⟨100000, 2, true, []⟩ [dur bx old] [] w) (ho : old.length ≤ 20000) (data : ByteArray) (hd : data.size ≤ 20000) :
    Calls Tryz.prog 11 #[.pointer (some ⟨d, 0, none⟩), .string tm, .string data] w fun e w' => e = .returned .nilIface ∧ Dk A w0 d ⟨100000, 3, true, []⟩ [dur bx old, ⟨tm, L data, 0⟩] [] w' := by
  have hc : appCode ⟨100000, 2, true, []⟩ [dur bx old] tm data = 0 := by
    unfold appCode
    rw [if_pos (by decide), if_neg (by simp [usedP, dur]; omega)]
  have hg : growP tm (L data) [dur bx old] = [dur bx old, ⟨tm, L data, 0⟩] := by
    have : hasP tm [dur bx old] = false := by
      simp [hasP, dur, bx_tm]
    unfold growP
    rw [this]
    rfl
  refine (AppendD h (ok_nil _ _ _) (by decide) tm data (by decide)).mono ?_
  rintro e w' ⟨r, K', rfl, hD, hE⟩
  rw [hc] at hD hE
  rw [hg] at hD
  obtain ⟨rfl, rfl⟩ := hE.ok (by decide)
  exact ⟨rfl, hD⟩
theorem rn4 {A : Whys} {w0 w : World} {d : Nat} (old data : List UInt8) (h : Dk A w0 d ⟨100000, 3, true, []⟩ [dur bx old, ⟨tm, data, 0⟩] [] w) :
    Calls Tryz.prog 50 #[.pointer (some ⟨d, 0, none⟩), .string tm] w fun e w' => e = .returned .nilIface ∧ Dk A w0 d ⟨100000, 4, true, []⟩ [dur bx old, dur tm data] [] w' := by
  have hc : lookC [dur bx old, ⟨tm, data, 0⟩] tm = 0 := by
    unfold lookC hasP
    rw [if_pos (by decide), if_pos (by simp)]
  have hm : modP tm syncP [dur bx old, ⟨tm, data, 0⟩] = [dur bx old, dur tm data] := by simp [modP, syncP, dur, bx_tm]
  refine (SyncD h (ok_nil _ _ _) (by decide) tm (by decide)).mono ?_
  rintro e w' ⟨r, K', rfl, hD, hE⟩
  rw [hc] at hD hE
  rw [hm] at hD
  obtain ⟨rfl, rfl⟩ := hE.ok (by decide)
  exact ⟨rfl, hD⟩
theorem look_tm (old data : List UInt8) : renC [dur bx old, dur tm data] tm bx = 0 := by
  unfold renC lookC hasP
  rw [if_pos (by decide), if_pos (by decide), if_pos (by simp [dur])]
theorem move_tm (old data : List UInt8) : moveP tm bx [dur bx old, dur tm data] = [dur bx data] := by
  unfold moveP dropP
  rw [if_neg tm_bx]
  simp [dur, bx_tm, tm_bx]
/-- The files behind the Rename. -/
def renP (done : Prop) [Decidable done] (old data : List UInt8) : List PF := if done then [dur bx data] else [dur bx old, dur tm data]
theorem renP_torn (done : Prop) [Decidable done] (old data : List UInt8) (z : Int) : (renP done old data).map (tornP z) = renP done old data := by
  unfold renP
  split <;> simp [torn_dur]
def okI (y z : Int) : Prop := inI y ∧ inI z
/-- A stop at the Rename. -/
theorem rn5 {A : Whys} {w0 w : World} {d : Nat} (old data : List UInt8) (y z : Int) (hy : okI y z) (h : Dk A w0 d ⟨100000, 4, true, [(1, y, z)]⟩ [dur bx old, dur tm data] [] w) :
    Calls Tryz.prog 51 #[.pointer (some ⟨d, 0, none⟩), .string tm, .string bx] w fun e w' => ∃ p, e = .returned (failV p) ∧ Dk A w0 d ⟨100000, 5, false, []⟩ (renP (1 ≤ y) old data) [(p, failObj A sRename tm 5 93)] w' := by
  refine (RenameD h (fun s hs => by simp at hs; subst hs; exact ⟨in1, hy.1, hy.2⟩) (by show (4 : Nat) < 1000000000; decide) tm bx (by decide) (by decide)).mono ?_
  rintro e w' ⟨r, K', rfl, hD, hE⟩
  rw [look_tm] at hD hE
  rw [move_tm] at hD
  obtain ⟨p, rfl, rfl⟩ := hE.bad (by
    unfold errC DS.due
    simp)
  refine ⟨p, rfl, ?_⟩
  have e1 : nextF ⟨100000, 4, true, [(1, y, z)]⟩ 0 [dur bx old, dur tm data] [dur bx data] (fun y => if 1 ≤ y then [dur bx data] else [dur bx old, dur tm data]) = renP (1 ≤ y) old data := renP_torn (1 ≤ y) old data z
  rw [e1] at hD
  exact hD
/-- No stop at the Rename: it comes with the next operation. -/
theorem rn6 {A : Whys} {w0 w : World} {d : Nat} (old data : List UInt8) (y z : Int) (hy : okI y z) (h : Dk A w0 d ⟨100000, 4, true, [(2, y, z)]⟩ [dur bx old, dur tm data] [] w) :
    Calls Tryz.prog 51 #[.pointer (some ⟨d, 0, none⟩), .string tm, .string bx] w fun e w' => e = .returned .nilIface ∧ Dk A w0 d ⟨100000, 5, true, [(1, y, z)]⟩ [dur bx data] [] w' := by
  refine (RenameD h (fun s hs => by simp at hs; subst hs; exact ⟨in2, hy.1, hy.2⟩) (by show (4 : Nat) < 1000000000; decide) tm bx (by decide) (by decide)).mono ?_
  rintro e w' ⟨r, K', rfl, hD, hE⟩
  rw [look_tm] at hD hE
  rw [move_tm] at hD
  obtain ⟨rfl, rfl⟩ := hE.ok (by
    unfold errC DS.due
    simp)
  exact ⟨rfl, hD⟩
/-- Remove of what is not there: on a machine that has stopped, and with the stop. -/
theorem rn7 {A : Whys} {w0 w : World} {d : Nat} (P : List PF) (K : List (Nat × Obj)) (h : Dk A w0 d ⟨100000, 5, false, []⟩ P K w) :
    Calls Tryz.prog 52 #[.pointer (some ⟨d, 0, none⟩), .string nb] w fun e w' => ∃ p, e = .returned (failV p) ∧ Dk A w0 d ⟨100000, 5, false, []⟩ P ((p, failObj A sRemove nb 0 93) :: K) w' := by
  refine (RemoveD h (ok_nil _ _ _) (by decide) nb (by decide)).mono ?_
  rintro e w' ⟨r, K', rfl, hD, hE⟩
  obtain ⟨p, rfl, rfl⟩ := hE.bad (by unfold errC; simp)
  exact ⟨p, rfl, hD⟩
theorem rn8 {A : Whys} {w0 w : World} {d : Nat} (data : List UInt8) (y z : Int) (hy : okI y z) (h : Dk A w0 d ⟨100000, 5, true, [(1, y, z)]⟩ [dur bx data] [] w) :
    Calls Tryz.prog 52 #[.pointer (some ⟨d, 0, none⟩), .string nb] w fun e w' => ∃ p, e = .returned (failV p) ∧ Dk A w0 d ⟨100000, 6, false, []⟩ [dur bx data] [(p, failObj A sRemove nb 6 93)] w' := by
  have hc : lookC [dur bx data] nb = 91 := by
    unfold lookC hasP
    rw [if_pos (by decide), if_neg (by simp [dur, bx_nb])]
  refine (RemoveD h (fun s hs => by simp at hs; subst hs; exact ⟨in1, hy.1, hy.2⟩) (by show (5 : Nat) < 1000000000; decide) nb (by decide)).mono ?_
  rintro e w' ⟨r, K', rfl, hD, hE⟩
  rw [hc] at hD hE
  obtain ⟨p, rfl, rfl⟩ := hE.bad (by unfold errC DS.due; simp)
  refine ⟨p, rfl, ?_⟩
  have e1 : ∀ G Gp, nextF ⟨100000, 5, true, [(1, y, z)]⟩ 91 [dur bx data] G Gp = [dur bx data] := fun G Gp => by
    show [dur bx data].map (tornP z) = _
    simp [torn_dur]
  rw [e1] at hD
  exact hD
theorem readT_hit {S : DS} (hr : S.runs = true) (hd : S.due = none) {P : List PF} {l : List UInt8} (hf : P.find? (fun p => decide (p.name = bx)) = some (dur bx l)) : readT S P bx = Proofs.YtgadmfbilmlnkabGreatDoor.S l ∧ lookC P bx = 0 := by
  have hh : hasP bx P = true := by
    unfold hasP
    rw [List.any_eq_true]
    exact ⟨_, List.mem_of_find?_eq_some hf, by simp [dur]⟩
  have hl : lookC P bx = 0 := by
    unfold lookC
    rw [if_pos (by decide), if_pos hh]
  refine ⟨?_, hl⟩
  unfold readT dataP
  rw [if_pos ⟨hr, hd, hl⟩, hf]
  rfl
theorem renP_find (done : Prop) [Decidable done] (old data : List UInt8) : (renP done old data).find? (fun p => decide (p.name = bx)) = some (dur bx (if done then data else old)) := by
  unfold renP
  split <;> simp [dur]
/-- Read, with the machine started again. -/
theorem rn9 {A : Whys} {w0 w : World} {d n : Nat} (P : List PF) (K : List (Nat × Obj)) (l : List UInt8) (hf : P.find? (fun p => decide (p.name = bx)) = some (dur bx l)) (hn : n < 1000000000) (h : Dk A w0 d ⟨100000, n, true, []⟩ P K w) :
    Calls Tryz.prog 12 #[.pointer (some ⟨d, 0, none⟩), .string bx] w fun e w' => e = .returned (.tuple #[.string (S l), .nilIface]) ∧ Dk A w0 d ⟨100000, n + 1, true, []⟩ P K w' := by
  obtain ⟨h1, h2⟩ := readT_hit (S := ⟨100000, n, true, []⟩) rfl rfl hf
  refine (ReadD h (ok_nil _ _ _) hn bx (by decide)).mono ?_
  rintro e w' ⟨r, K', rfl, hD, hE⟩
  rw [h2] at hD hE
  obtain ⟨rfl, rfl⟩ := hE.ok (by unfold errC DS.due; simp)
  exact ⟨by rw [h1], hD⟩
theorem size_tm (done : Prop) [Decidable done] (old data : List UInt8) : sizeP tm (renP done old data) = if done then -1 else (data.length : Int) := by
  unfold sizeP renP
  by_cases h : done
  · rw [if_pos h, if_pos h]
    simp [dur, bx_tm]
  · rw [if_neg h, if_neg h]
    simp [dur, bx_tm]
end Go.Proofs.YtgadmfbilmlnkabGreatDoor
