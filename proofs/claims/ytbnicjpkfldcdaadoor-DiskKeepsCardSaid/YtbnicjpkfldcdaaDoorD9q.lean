/- disk: operate. -/
import Derived.Test.YtbnicjpkfldcdaaDoorD9n
namespace Go.Proofs.YtbnicjpkfldcdaaDoor
open Go.RowKit Go.Lib

def inI (x : Int) : Prop := -9223372036854775808 ≤ x ∧ x ≤ 9223372036854775807
/-- Stops that an int can hold. -/
def DS.ok (S : DS) : Prop := ∀ s, s ∈ S.stops → inI s.1 ∧ inI s.2.1 ∧ inI s.2.2
/-- The stop that falls on the operation that is counted now. -/
def DS.due (S : DS) : Option (Int × Int) :=
  match S.stops with
  | [] => none
  | (x, y, z) :: _ => if 1 < x then none else some (y, z)
/-- The plan behind an operation that is counted. -/
def DS.tick (S : DS) : DS :=
  match S.stops with
  | [] => S
  | (x, y, z) :: l => if 1 < x then { S with stops := (x - 1, y, z) :: l } else { S with stops := l }
def DS.step (S : DS) : DS := { S with steps := S.steps + 1 }
theorem due_quiet {B d m clk : Nat} {sv : Value} {S : DS} {F : List FE} {w : World} (h : DiskAt B d m clk sv S F w) (hok : S.ok) (hd : S.due = none) :
    Calls Tryd.prog 55 #[.pointer (some ⟨d, 0, none⟩)] w fun e w' => e = .returned (.tuple #[.agg #[.int .i64 0, .int .i64 0, .int .i64 0], .bool false]) ∧ DiskAt B d m clk sv S.tick F w' ∧ Stays (fpOf d m sv F) w w' := by
  cases hs : S.stops with
  | nil =>
    have e : S.tick = S := by unfold DS.tick; rw [hs]
    rw [e]
    refine (due_none h hs).mono ?_
    rintro e w' ⟨rfl, hb⟩
    exact ⟨rfl, h.below hb, Stays.ofBelow hb⟩
  | cons s l =>
    obtain ⟨x, y, z⟩ := s
    have hx : 1 < x := by
      unfold DS.due at hd
      rw [hs] at hd
      simp only at hd
      by_cases hx : 1 < x
      · exact hx
      · rw [if_neg hx] at hd; cases hd
    have e : S.tick = { S with stops := (x - 1, y, z) :: l } := by unfold DS.tick; rw [hs]; simp only; rw [if_pos hx]
    rw [e]
    have := hok (x, y, z) (by rw [hs]; simp)
    exact due_later h x y z l hs hx this.1.2
theorem due_stop {B d m clk : Nat} {sv : Value} {S : DS} {F : List FE} {w : World} (h : DiskAt B d m clk sv S F w) (y z : Int) (hd : S.due = some (y, z)) :
    Calls Tryd.prog 55 #[.pointer (some ⟨d, 0, none⟩)] w fun e w' => ∃ x, e = .returned (.tuple #[.agg #[.int .i64 x, .int .i64 y, .int .i64 z], .bool true]) ∧ ∃ sv', DiskAt B d m clk sv' S.tick F w' ∧ Stays (fpOf d m sv F) w w' ∧ ∀ b, b ∈ fpOf d m sv' F → b ∈ fpOf d m sv F := by
  cases hs : S.stops with
  | nil => unfold DS.due at hd; rw [hs] at hd; cases hd
  | cons s l =>
    obtain ⟨x, y', z'⟩ := s
    unfold DS.due at hd
    rw [hs] at hd
    simp only at hd
    by_cases hx : 1 < x
    · rw [if_pos hx] at hd; cases hd
    · rw [if_neg hx] at hd
      simp only [Option.some.injEq, Prod.mk.injEq] at hd
      obtain ⟨rfl, rfl⟩ := hd
      have e : S.tick = { S with stops := l } := by unfold DS.tick; rw [hs]; simp only; rw [if_neg hx]
      rw [e]
      refine (due_now h x y' z' l hs hx).mono ?_
      rintro e w' ⟨rfl, r⟩
      exact ⟨x, rfl, r⟩
theorem step_world {B d m clk : Nat} {sv : Value} {S : DS} {F : List FE} {w : World} (h : DiskAt B d m clk sv S F w) (hn : S.steps < 1000000000) :
    DiskAt B d m clk sv S.step F (w.setCell ⟨d, 2, none⟩ (.int .i64 ((S.steps : Int) + 1))) ∧ Stays (fpOf d m sv F) w (w.setCell ⟨d, 2, none⟩ (.int .i64 ((S.steps : Int) + 1))) := by
  refine ⟨h.turn S.step rfl rfl hn ?_ (by simp [World.setCell]) (fun b _ hb => Below.heap_setCell _ _ _ _ hb), Stays.setCell (p := ⟨d, 2, none⟩) (Stays.refl _ _) (.inl mem_fp_self) _⟩
  have hs := h.self
  unfold selfObj at hs
  rw [heap_setCell_at _ hs]
  rfl
set_option maxHeartbeats 2000000 in
theorem operate_down {A : Whys} {B d m clk : Nat} {sv : Value} {S : DS} {F : List FE} {w : World} (h : DiskAt B d m clk sv S F w) (he : Env A B w) (hr : S.runs = false) (op name : ByteArray) (code : Int) (wn pn : Nat) (wc pc : Array Value) :
    Calls Tryd.prog 39 #[.pointer (some ⟨d, 0, none⟩), .string op, .string name, .int .i64 code, .func (.func wn) #[] wc, .func (.func pn) #[] pc] w fun e w' => e = .returned (failV w.heap.size) ∧ w' = w.alloc (failObj A op name 0 93) := by
  have hD := Lib.hid (Down_any h)
  rw [hr] at hD
  have hF := Lib.hid (fail_any A B op name 0 93 w he)
  clear h he hr
  go_enter Tryd.func39, Tryd.ntmps39
  go_wp2_with (first | (go_at_call 9; refine hD.out.mono ?_; rintro e w' ⟨rfl, rfl⟩) | (go_at_call 20; refine hF.out.mono ?_; rintro e w' ⟨rfl, rfl⟩))
  go_ret
  exact ⟨rfl, rfl⟩
/-- A function of this program. -/
def IsFn (n : Nat) : Prop := ∀ (args : Array Value) (W : World), (callFunc n args).run Tryd.prog W = .ok (.enter n args) W
set_option maxHeartbeats 4000000 in
/-- An operation that is not refused, without a stop: what 'whole' does is done, behind the count. -/
theorem operate_whole {B d m clk : Nat} {sv : Value} {S : DS} {F : List FE} {w : World} (h : DiskAt B d m clk sv S F w) (hr : S.runs = true) (hok : S.ok) (hn : S.steps < 1000000000) (hd : S.due = none) (op name : ByteArray) (wn pn : Nat) (wc pc : Array Value) (R : World → World → Prop) (hwn : IsFn wn)
    (hW : ∀ W, DiskAt B d m clk sv S.step.tick F W → Stays (fpOf d m sv F) w W → Calls Tryd.prog wn wc W fun e W' => e = .returned (.tuple #[]) ∧ R W W') :
    Calls Tryd.prog 39 #[.pointer (some ⟨d, 0, none⟩), .string op, .string name, .int .i64 0, .func (.func wn) #[] wc, .func (.func pn) #[] pc] w fun e w' => e = .returned .nilIface ∧ ∃ W, DiskAt B d m clk sv S.step.tick F W ∧ Stays (fpOf d m sv F) w W ∧ R W w' := by
  have hD := Lib.hid (Down_any h)
  rw [hr] at hD
  obtain ⟨hD1, hS1⟩ := step_world h hn
  have hU := Lib.hid (due_quiet hD1 hok (by unfold DS.due at *; exact hd))
  have HS1 := Lib.hid hS1
  have HW := Lib.hid hW
  have c2 := h.cells.c2
  have f2 := h.cells.f2
  clear h hr hok hd hW hD1 hS1
  go_enter Tryd.func39, Tryd.ntmps39
  go_upto_region 10 with (first | (go_at_call 9; refine hD.out.mono ?_; rintro e w' ⟨rfl, rfl⟩) | (go_at_call 55; refine hU.out.mono ?_; rintro e w3 ⟨rfl, hD3, hS3⟩))
  have hB3 : DiskAt B d m clk sv S.step.tick F (w3.alloc (.cells #[.int .i64 0, .int .i64 0, .int .i64 0] 56)) := hD3.alloc _
  have hT3 : Stays (fpOf d m sv F) w' (w3.alloc (.cells #[.int .i64 0, .int .i64 0, .int .i64 0] 56)) := (HS1.out.trans hS3 (fun b hb => .inl hb)).alloc _
  generalize w3.alloc (.cells #[.int .i64 0, .int .i64 0, .int .i64 0] 56) = w4 at *
  have HC := Lib.hid (HW.out w4 hB3 hT3)
  have HB := Lib.hid (And.intro hB3 hT3)
  have hcf := hwn wc
  clear hB3 hT3 hD3 hS3 hU hD HW HS1
  go_wp2_with fail
  refine HC.out.mono ?_
  rintro e w5 ⟨rfl, hR⟩
  have HR := Lib.hid hR
  clear hR
  go_wp2_with fail
  go_ret
  exact ⟨rfl, w4, HB.out.1, HB.out.2, HR.out⟩
set_option maxHeartbeats 4000000 in
/-- One that is refused, without a stop. -/
theorem operate_refused {A : Whys} {B d m clk : Nat} {sv : Value} {S : DS} {F : List FE} {w : World} (h : DiskAt B d m clk sv S F w) (he : Env A B w) (hr : S.runs = true) (hok : S.ok) (hn : S.steps < 1000000000) (hd : S.due = none) (op name : ByteArray) (code : Int) (hc : code ≠ 0) (wn pn : Nat) (wc pc : Array Value) :
    Calls Tryd.prog 39 #[.pointer (some ⟨d, 0, none⟩), .string op, .string name, .int .i64 code, .func (.func wn) #[] wc, .func (.func pn) #[] pc] w fun e w' => ∃ p, e = .returned (failV p) ∧ w'.heap[p]? = some (failObj A op name ((S.steps : Int) + 1) code) ∧ w.heap.size ≤ p ∧ p ∉ fpOf d m sv F ∧ DiskAt B d m clk sv S.step.tick F w' ∧ Stays (fpOf d m sv F) w w' := by
  have hD := Lib.hid (Down_any h)
  rw [hr] at hD
  obtain ⟨hD1, hS1⟩ := step_world h hn
  have hU := Lib.hid (due_quiet hD1 hok (by unfold DS.due at *; exact hd))
  have HS1 := Lib.hid hS1
  have HEn := Lib.hid he
  have HBs := Lib.hid h.base
  have HF := Lib.hid (fun W (hW : Env A B W) => fail_any A B op name ((S.steps : Int) + 1) code W hW)
  have hst : S.step.tick.steps = S.steps + 1 := by
    unfold DS.tick
    split
    · rfl
    · split <;> rfl
  have c2 := h.cells.c2
  have f2 := h.cells.f2
  have hc1 := beqI_no hc
  have hc2 : (code != 0) = true := by simp [hc]
  clear h hr hok hd hD1 hS1 he
  go_enter Tryd.func39, Tryd.ntmps39
  go_upto_region 10 with (first | (go_at_call 9; refine hD.out.mono ?_; rintro e w' ⟨rfl, rfl⟩) | (go_at_call 55; refine hU.out.mono ?_; rintro e w3 ⟨rfl, hD3, hS3⟩))
  have hB3 : DiskAt B d m clk sv S.step.tick F (w3.alloc (.cells #[.int .i64 0, .int .i64 0, .int .i64 0] 56)) := hD3.alloc _
  have hT3 : Stays (fpOf d m sv F) w' (w3.alloc (.cells #[.int .i64 0, .int .i64 0, .int .i64 0] 56)) := (HS1.out.trans hS3 (fun b hb => .inl hb)).alloc _
  generalize w3.alloc (.cells #[.int .i64 0, .int .i64 0, .int .i64 0] 56) = w4 at *
  have HB := Lib.hid (And.intro hB3 hT3)
  have HE4 := Lib.hid (HEn.out.stays hT3 HBs.out)
  have k2 := hB3.cells.c2
  rw [hst] at k2
  have k3 : w4.cell? ⟨d, 2, none⟩ = some (.int .i64 ((S.steps : Int) + 1)) := by rw [k2]; rfl
  clear hB3 hT3 hD3 hS3 hU hD HS1 k2 hst c2 f2
  go_wp2_with (go_at_call 20; refine (HF.out _ HE4.out).mono ?_; rintro e w5 ⟨rfl, hw5⟩; have HW5 := Lib.hid hw5; clear hw5)
  go_ret
  refine ⟨w4.heap.size, rfl, ?_, ?_, ?_, ?_, ?_⟩
  · rw [HW5.out]; exact heap_alloc_new _ _
  · exact HB.out.2.size
  · exact fun e => Nat.lt_irrefl _ (HB.out.1.lt e)
  · rw [HW5.out]; exact HB.out.1.alloc _
  · rw [HW5.out]; exact HB.out.2.alloc _
/-- What is left behind a stop. -/
def Stopped (A : Whys) (B d m : Nat) (sv : Value) (S : DS) (F : List FE) (op name : ByteArray) (G : List PF) (w : World) (p : Nat) (w' : World) : Prop :=
  ∃ sv' clk' F', DiskAt B d m clk' sv' { S with runs := false } F' w' ∧ F'.map FE.pl = G ∧ Stays (fpOf d m sv F) w w' ∧ (∀ b, b ∈ fpOf d m sv' F' → b ∈ fpOf d m sv F ∨ w.heap.size ≤ b) ∧ w'.heap[p]? = some (failObj A op name (S.steps : Int) 93) ∧ w.heap.size ≤ p ∧ p ∉ fpOf d m sv' F'
theorem tick_steps (S : DS) : S.step.tick.steps = S.steps + 1 := by
  unfold DS.tick
  split
  · rfl
  · split <;> rfl
theorem due_rest {S : DS} {y z : Int} (hok : S.ok) (hd : S.due = some (y, z)) : inI y ∧ inI z := by
  unfold DS.due at hd
  cases hs : S.stops with
  | nil => rw [hs] at hd; cases hd
  | cons s l =>
    obtain ⟨x, y', z'⟩ := s
    rw [hs] at hd
    simp only at hd
    split at hd
    · cases hd
    · simp only [Option.some.injEq, Prod.mk.injEq] at hd
      obtain ⟨rfl, rfl⟩ := hd
      have := hok (x, y', z') (by rw [hs]; simp)
      exact this.2
set_option maxHeartbeats 4000000 in
/-- A stop within one that is refused. -/
theorem operate_stop_refused {A : Whys} {B d m clk : Nat} {sv : Value} {S : DS} {F : List FE} {w : World} (h : DiskAt B d m clk sv S F w) (he : Env A B w) (hr : S.runs = true) (hok : S.ok) (hn : S.steps < 1000000000) (y z : Int) (hd : S.due = some (y, z)) (op name : ByteArray) (code : Int) (hc : code ≠ 0) (wn pn : Nat) (wc pc : Array Value) :
    Calls Tryd.prog 39 #[.pointer (some ⟨d, 0, none⟩), .string op, .string name, .int .i64 code, .func (.func wn) #[] wc, .func (.func pn) #[] pc] w fun e w' => ∃ p, e = .returned (failV p) ∧ Stopped A B d m sv S.step.tick F op name ((F.map FE.pl).map (tornP z)) w p w' := by
  have hD := Lib.hid (Down_any h)
  rw [hr] at hD
  obtain ⟨hD1, hS1⟩ := step_world h hn
  have hU := Lib.hid (due_stop hD1 y z (by unfold DS.due at *; exact hd))
  obtain ⟨_, hz⟩ := due_rest hok hd
  have HS1 := Lib.hid hS1
  have HEn := Lib.hid he
  have HBs := Lib.hid h.base
  have HF := Lib.hid (fun W (hW : Env A B W) => fail_any A B op name ((S.steps : Int) + 1) 93 W hW)
  have HTe := Lib.hid (fun W sv' (hW : DiskAt B d m clk sv' S.step.tick F W) => tear_any hW z hz.1 hz.2)
  have HSt := Lib.hid (tick_steps S)
  have c2 := h.cells.c2
  have f2 := h.cells.f2
  have hc1 := beqI_no hc
  clear h hr hok hd hD1 hS1 he hz
  go_enter Tryd.func39, Tryd.ntmps39
  go_upto_region 6 with (first | (go_at_call 9; refine hD.out.mono ?_; rintro e w' ⟨rfl, rfl⟩) | (go_at_call 55; refine hU.out.mono ?_; rintro e w3 ⟨x, rfl, sv', hD3, hS3, hM3⟩))
  have hB3 : DiskAt B d m clk sv' S.step.tick F (w3.alloc (.cells #[.int .i64 x, .int .i64 y, .int .i64 z] 56)) := hD3.alloc _
  have hT3 : Stays (fpOf d m sv F) w' (w3.alloc (.cells #[.int .i64 x, .int .i64 y, .int .i64 z] 56)) := (HS1.out.trans hS3 (fun b hb => .inl hb)).alloc _
  have q2 : (w3.alloc (.cells #[.int .i64 x, .int .i64 y, .int .i64 z] 56)).cell? ⟨w3.heap.size, 2, none⟩ = some (.int .i64 z) := cell_of (heap_alloc_new w3 _) 2
  have HB := Lib.hid (And.intro hB3 hT3)
  have HM3 := Lib.hid hM3
  generalize w3.heap.size = sb at *
  generalize w3.alloc (.cells #[.int .i64 x, .int .i64 y, .int .i64 z] 56) = w4 at *
  clear hB3 hT3 hD3 hS3 hU hD HS1 hM3 c2 f2
  go_upto_region 9 with (go_at_call 56; refine (HTe.out _ sv' HB.out.1).mono ?_; rintro e w5 ⟨rfl, clk5, F5, hD5, hG5, hS5, hM5⟩)
  have hS6 : Stays (fpOf d m sv F) w' w5 := HB.out.2.trans hS5 (fun b hb => .inl (HM3.out b hb))
  have HE5 := Lib.hid (HEn.out.stays hS6 HBs.out)
  have k2 := hD5.cells.c2
  have k3 : w5.cell? ⟨d, 2, none⟩ = some (.int .i64 ((S.steps : Int) + 1)) := by
    rw [k2]
    show some (Value.int .i64 (S.step.tick.steps : Int)) = _
    rw [HSt.out]; rfl
  have H5 := Lib.hid (And.intro hD5 (And.intro hG5 (And.intro hS6 hM5)))
  clear hD5 hG5 hS5 hM5 hS6 k2
  go_wp2_with (go_at_call 20; refine (HF.out _ HE5.out).mono ?_; rintro e w6 ⟨rfl, hw6⟩; have HW6 := Lib.hid hw6; clear hw6)
  go_ret
  obtain ⟨hD5, hG5, hS6, hM5⟩ := H5.out
  refine ⟨w5.heap.size, rfl, sv', clk5, F5, ?_, hG5, ?_, ?_, ?_, hS6.size, fun e => Nat.lt_irrefl _ (hD5.lt e)⟩
  · rw [HW6.out]; exact hD5.alloc _
  · rw [HW6.out]; exact hS6.alloc _
  · intro b hb
    rcases hM5 b hb with e | e
    · exact .inl (HM3.out b e)
    · exact .inr (Nat.le_trans HB.out.2.size e)
  · rw [HW6.out, HSt.out]; exact heap_alloc_new _ _
end Go.Proofs.YtbnicjpkfldcdaaDoor

/- disk: operate, in one. -/
namespace Go.Proofs.YtbnicjpkfldcdaaDoor
open Go.RowKit Go.Lib

set_option maxHeartbeats 4000000 in
/-- A stop within one that is not refused: what 'part' does is done, and what is not durable is torn off. -/
theorem operate_stop_part {A : Whys} {B d m clk : Nat} {sv : Value} {S : DS} {F : List FE} {w : World} (h : DiskAt B d m clk sv S F w) (he : Env A B w) (hr : S.runs = true) (hok : S.ok) (hn : S.steps < 1000000000) (y z : Int) (hd : S.due = some (y, z)) (op name : ByteArray) (wn pn : Nat) (wc pc : Array Value) (hpn : IsFn pn) (G : List PF)
    (hP : ∀ W sv', DiskAt B d m clk sv' S.step.tick F W → Stays (fpOf d m sv F) w W → (∀ b, b ∈ fpOf d m sv' F → b ∈ fpOf d m sv F) → Calls Tryd.prog pn (#[.int .i64 y] ++ pc) W fun e W' => e = .returned (.tuple #[]) ∧ Did B d m sv' S.step.tick F W G W') :
    Calls Tryd.prog 39 #[.pointer (some ⟨d, 0, none⟩), .string op, .string name, .int .i64 0, .func (.func wn) #[] wc, .func (.func pn) #[] pc] w fun e w' => ∃ p, e = .returned (failV p) ∧ Stopped A B d m sv S.step.tick F op name (G.map (tornP z)) w p w' := by
  have hD := Lib.hid (Down_any h)
  rw [hr] at hD
  obtain ⟨hD1, hS1⟩ := step_world h hn
  have hU := Lib.hid (due_stop hD1 y z (by unfold DS.due at *; exact hd))
  obtain ⟨_, hz⟩ := due_rest hok hd
  have HS1 := Lib.hid hS1
  have HEn := Lib.hid he
  have HBs := Lib.hid h.base
  have HPa := Lib.hid hP
  have HF := Lib.hid (fun W (hW : Env A B W) => fail_any A B op name ((S.steps : Int) + 1) 93 W hW)
  have HTe := Lib.hid (fun W sv' clk' F' (hW : DiskAt B d m clk' sv' S.step.tick F' W) => tear_any hW z hz.1 hz.2)
  have HSt := Lib.hid (tick_steps S)
  have c2 := h.cells.c2
  have f2 := h.cells.f2
  have hcf := hpn (#[.int .i64 y] ++ pc)
  clear h hr hok hd hD1 hS1 he hz hP
  go_enter Tryd.func39, Tryd.ntmps39
  go_upto_region 6 with (first | (go_at_call 9; refine hD.out.mono ?_; rintro e w' ⟨rfl, rfl⟩) | (go_at_call 55; refine hU.out.mono ?_; rintro e w3 ⟨x, rfl, sv', hD3, hS3, hM3⟩))
  have hB3 : DiskAt B d m clk sv' S.step.tick F (w3.alloc (.cells #[.int .i64 x, .int .i64 y, .int .i64 z] 56)) := hD3.alloc _
  have hT3 : Stays (fpOf d m sv F) w' (w3.alloc (.cells #[.int .i64 x, .int .i64 y, .int .i64 z] 56)) := (HS1.out.trans hS3 (fun b hb => .inl hb)).alloc _
  have hsb : (w3.alloc (.cells #[.int .i64 x, .int .i64 y, .int .i64 z] 56)).heap[w3.heap.size]? = some (.cells #[.int .i64 x, .int .i64 y, .int .i64 z] 56 (0, 0)) := heap_alloc_new w3 _
  have hsn : w3.heap.size ∉ fpOf d m sv' F := fun e => Nat.lt_irrefl _ (hD3.lt e)
  have HB := Lib.hid (And.intro hB3 hT3)
  have HM3 := Lib.hid hM3
  generalize w3.heap.size = sb at *
  generalize w3.alloc (.cells #[.int .i64 x, .int .i64 y, .int .i64 z] 56) = w4 at *
  have q1 : w4.cell? ⟨sb, 1, none⟩ = some (.int .i64 y) := cell_of hsb 1
  have HC := Lib.hid (HPa.out w4 sv' hB3 hT3 hM3)
  have HSB := Lib.hid hsb
  have HSN := Lib.hid hsn
  clear hB3 hT3 hD3 hS3 hU hD HS1 hM3 c2 f2 HPa hsb hsn
  go_upto_region 8 with fail
  refine HC.out.mono ?_
  rintro e w5 ⟨rfl, clk5, F5, hD5, hG5, hS5, hM5⟩
  have hsb5 : w5.heap[sb]? = some (.cells #[.int .i64 x, .int .i64 y, .int .i64 z] 56 (0, 0)) := by rw [hS5.block sb (lt_of_heap HSB.out) HSN.out]; exact HSB.out
  have q2 : w5.cell? ⟨sb, 2, none⟩ = some (.int .i64 z) := cell_of hsb5 2
  have hS6 : Stays (fpOf d m sv F) w' w5 := HB.out.2.trans hS5 (fun b hb => .inl (HM3.out b hb))
  have hM6 : ∀ b, b ∈ fpOf d m sv' F5 → b ∈ fpOf d m sv F ∨ w'.heap.size ≤ b := fun b hb => by
    rcases hM5 b hb with e | e
    · exact .inl (HM3.out b e)
    · exact .inr (Nat.le_trans HB.out.2.size e)
  have H5 := Lib.hid (And.intro hD5 (And.intro hG5 (And.intro hS6 hM6)))
  clear hD5 hG5 hS5 hM5 hS6 hM6 hsb5 HC HSB HSN q1 hcf
  go_upto_region 9 with (go_at_call 56; refine (HTe.out _ sv' clk5 F5 H5.out.1).mono ?_; rintro e w6 ⟨rfl, clk6, F6, hD6, hG6, hS6, hM6⟩)
  obtain ⟨hD5, hG5, hS5, hM5⟩ := H5.out
  have hS7 : Stays (fpOf d m sv F) w' w6 := hS5.trans hS6 hM5
  have hM7 : ∀ b, b ∈ fpOf d m sv' F6 → b ∈ fpOf d m sv F ∨ w'.heap.size ≤ b := fun b hb => by
    rcases hM6 b hb with e | e
    · exact hM5 b e
    · exact .inr (Nat.le_trans hS5.size e)
  have HE6 := Lib.hid (HEn.out.stays hS7 HBs.out)
  have k2 := hD6.cells.c2
  have k3 : w6.cell? ⟨d, 2, none⟩ = some (.int .i64 ((S.steps : Int) + 1)) := by
    rw [k2]
    show some (Value.int .i64 (S.step.tick.steps : Int)) = _
    rw [HSt.out]; rfl
  rw [hG5] at hG6
  have H6 := Lib.hid (And.intro hD6 (And.intro hG6 (And.intro hS7 hM7)))
  clear hD6 hG6 hS6 hM6 hS7 hM7 k2 hD5 hG5 hS5 hM5 H5
  go_wp2_with (go_at_call 20; refine (HF.out _ HE6.out).mono ?_; rintro e w7 ⟨rfl, hw7⟩; have HW7 := Lib.hid hw7; clear hw7)
  go_ret
  obtain ⟨hD6, hG6, hS7, hM7⟩ := H6.out
  refine ⟨w6.heap.size, rfl, sv', clk6, F6, ?_, hG6, ?_, hM7, ?_, hS7.size, fun e => Nat.lt_irrefl _ (hD6.lt e)⟩
  · rw [HW7.out]; exact hD6.alloc _
  · rw [HW7.out]; exact hS7.alloc _
  · rw [HW7.out, HSt.out]; exact heap_alloc_new _ _
/-- The disk's own cells behind an operation. -/
def DS.next (S : DS) : DS := if S.runs = true then (match S.due with | none => S.step.tick | some _ => { S.step.tick with runs := false }) else S
/-- Its files. -/
def nextF (S : DS) (code : Int) (P G : List PF) (Gp : Int → List PF) : List PF :=
  if S.runs = true then (match S.due with | none => if code = 0 then G else P | some (y, z) => (if code = 0 then Gp y else P).map (tornP z)) else P
def errC (S : DS) (code : Int) : Int := if S.runs = true then (match S.due with | none => code | some _ => 93) else 93
def errS (S : DS) : Int := if S.runs = true then (S.steps : Int) + 1 else 0
/-- What an operation answers. -/
def ErrAt (A : Whys) (op name : ByteArray) (step code : Int) (N : Nat) (fp : List Nat) (r : Value) (w' : World) : Prop :=
  (code = 0 ∧ r = .nilIface) ∨ (code ≠ 0 ∧ ∃ p, r = failV p ∧ w'.heap[p]? = some (failObj A op name step code) ∧ N ≤ p ∧ p ∉ fp)
/-- Behind an operation. -/
def After (A : Whys) (B d m : Nat) (sv : Value) (S : DS) (F : List FE) (op name : ByteArray) (code : Int) (G : List PF) (Gp : Int → List PF) (w : World) (e : Ending) (w' : World) : Prop :=
  ∃ r sv' clk' F', e = .returned r ∧ DiskAt B d m clk' sv' S.next F' w' ∧ F'.map FE.pl = nextF S code (F.map FE.pl) G Gp ∧ Stays (fpOf d m sv F) w w' ∧ (∀ b, b ∈ fpOf d m sv' F' → b ∈ fpOf d m sv F ∨ w.heap.size ≤ b) ∧ ErrAt A op name (errS S) (errC S code) w.heap.size (fpOf d m sv' F') r w'
theorem operate_after {A : Whys} {B d m clk : Nat} {sv : Value} {S : DS} {F : List FE} {w : World} (h : DiskAt B d m clk sv S F w) (he : Env A B w) (hok : S.ok) (hn : S.steps < 1000000000) (op name : ByteArray) (code : Int) (wn pn : Nat) (wc pc : Array Value) (hwn : IsFn wn) (hpn : IsFn pn) (G : List PF) (Gp : Int → List PF)
    (hW : code = 0 → S.runs = true → S.due = none → ∀ W, DiskAt B d m clk sv S.step.tick F W → Stays (fpOf d m sv F) w W → Calls Tryd.prog wn wc W fun e W' => e = .returned (.tuple #[]) ∧ Did B d m sv S.step.tick F W G W')
    (hP : code = 0 → S.runs = true → ∀ y W sv', inI y → DiskAt B d m clk sv' S.step.tick F W → Stays (fpOf d m sv F) w W → (∀ b, b ∈ fpOf d m sv' F → b ∈ fpOf d m sv F) → Calls Tryd.prog pn (#[.int .i64 y] ++ pc) W fun e W' => e = .returned (.tuple #[]) ∧ Did B d m sv' S.step.tick F W (Gp y) W') :
    Calls Tryd.prog 39 #[.pointer (some ⟨d, 0, none⟩), .string op, .string name, .int .i64 code, .func (.func wn) #[] wc, .func (.func pn) #[] pc] w fun e w' => After A B d m sv S F op name code G Gp w e w' := by
  by_cases hr : S.runs = true
  · cases hd : S.due with
    | none =>
      have en : S.next = S.step.tick := by unfold DS.next; rw [if_pos hr, hd]
      have ef : nextF S code (F.map FE.pl) G Gp = if code = 0 then G else F.map FE.pl := by unfold nextF; rw [if_pos hr, hd]
      have ec : errC S code = code := by unfold errC; rw [if_pos hr, hd]
      have es : errS S = (S.steps : Int) + 1 := by unfold errS; rw [if_pos hr]
      by_cases hc : code = 0
      · subst hc
        refine (operate_whole h hr hok hn hd op name wn pn wc pc (fun W W' => Did B d m sv S.step.tick F W G W') hwn (hW rfl hr hd)).mono ?_
        rintro e w' ⟨rfl, W, hDW, hSW, clk', F', hD', hG', hS', hM'⟩
        refine ⟨.nilIface, sv, clk', F', rfl, by rw [en]; exact hD', by rw [ef, if_pos rfl]; exact hG', hSW.trans hS' (fun b hb => .inl hb), fun b hb => ?_, by rw [ec]; exact .inl ⟨rfl, rfl⟩⟩
        rcases hM' b hb with e | e
        · exact .inl e
        · exact .inr (Nat.le_trans hSW.size e)
      · refine (operate_refused h he hr hok hn hd op name code hc wn pn wc pc).mono ?_
        rintro e w' ⟨p, rfl, hp, hpn', hpo, hD', hS'⟩
        exact ⟨failV p, sv, clk, F, rfl, by rw [en]; exact hD', by rw [ef, if_neg hc], hS', fun b hb => .inl hb, by rw [ec, es]; exact .inr ⟨hc, p, rfl, hp, hpn', hpo⟩⟩
    | some yz =>
      obtain ⟨y, z⟩ := yz
      have en : S.next = { S.step.tick with runs := false } := by unfold DS.next; rw [if_pos hr, hd]
      have ef : nextF S code (F.map FE.pl) G Gp = (if code = 0 then Gp y else F.map FE.pl).map (tornP z) := by unfold nextF; rw [if_pos hr, hd]
      have ec : errC S code = 93 := by unfold errC; rw [if_pos hr, hd]
      have es : errS S = (S.step.tick.steps : Int) := by unfold errS; rw [if_pos hr, tick_steps]; rfl
      by_cases hc : code = 0
      · subst hc
        refine (operate_stop_part h he hr hok hn y z hd op name wn pn wc pc hpn (Gp y) (fun W sv' => hP rfl hr y W sv' (due_rest hok hd).1)).mono ?_
        rintro e w' ⟨p, rfl, sv', clk', F', hD', hG', hS', hM', hp, hpn', hpo⟩
        exact ⟨failV p, sv', clk', F', rfl, by rw [en]; exact hD', by rw [ef, if_pos rfl]; exact hG', hS', hM', by rw [ec, es]; exact .inr ⟨by decide, p, rfl, hp, hpn', hpo⟩⟩
      · refine (operate_stop_refused h he hr hok hn y z hd op name code hc wn pn wc pc).mono ?_
        rintro e w' ⟨p, rfl, sv', clk', F', hD', hG', hS', hM', hp, hpn', hpo⟩
        exact ⟨failV p, sv', clk', F', rfl, by rw [en]; exact hD', by rw [ef, if_neg hc]; exact hG', hS', hM', by rw [ec, es]; exact .inr ⟨by decide, p, rfl, hp, hpn', hpo⟩⟩
  · have en : S.next = S := by unfold DS.next; rw [if_neg hr]
    have ef : nextF S code (F.map FE.pl) G Gp = F.map FE.pl := by unfold nextF; rw [if_neg hr]
    have ec : errC S code = 93 := by unfold errC; rw [if_neg hr]
    have es : errS S = 0 := by unfold errS; rw [if_neg hr]
    refine (operate_down h he (by simpa using hr) op name code wn pn wc pc).mono ?_
    rintro e w' ⟨rfl, rfl⟩
    exact ⟨failV w.heap.size, sv, clk, F, rfl, by rw [en]; exact h.alloc _, by rw [ef], (Stays.refl _ _).alloc _, fun b hb => .inl hb, by rw [ec, es]; exact .inr ⟨by decide, w.heap.size, rfl, heap_alloc_new _ _, Nat.le_refl _, fun e => Nat.lt_irrefl _ (h.lt e)⟩⟩
/-- Blocks of the call's own are laid ahead. -/
theorem After.ahead {A : Whys} {B d m : Nat} {sv : Value} {S : DS} {F : List FE} {op name : ByteArray} {code : Int} {G : List PF} {Gp : Int → List PF} {w w1 w' : World} {e : Ending} (hb : Below w.heap.size w w1) (h : After A B d m sv S F op name code G Gp w1 e w') : After A B d m sv S F op name code G Gp w e w' := by
  obtain ⟨r, sv', clk', F', he, hD, hG, hS, hM, hE⟩ := h
  refine ⟨r, sv', clk', F', he, hD, hG, (Stays.ofBelow hb).trans hS (fun b hb => .inl hb), fun b hb' => ?_, ?_⟩
  · rcases hM b hb' with e | e
    · exact .inl e
    · exact .inr (Nat.le_trans hb.size e)
  · rcases hE with hE | ⟨hc, p, hr, hp, hn, ho⟩
    · exact .inl hE
    · exact .inr ⟨hc, p, hr, hp, Nat.le_trans hb.size hn, ho⟩
end Go.Proofs.YtbnicjpkfldcdaaDoor
