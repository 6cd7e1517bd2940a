/- disk: operate. -/
import Derived.Test.YtgadmfbilmlnkabGreatDoorD9p
namespace Go.Proofs.YtgadmfbilmlnkabGreatDoor
open Go.RowKit Go.Lib

def inI (x : Int) : Prop := -9223372036854775808 ≤ x ∧ x ≤ 9223372036854775807
/-- Stops that an int can hold. -/
def DS.ok (S : DS) : Prop := ∀ s, s ∈ S.stops → inI s.1 ∧ inI s.2.1 ∧ inI s.2.2
/-- The stop that falls on the operation that is counted now. -/
def DS.due (S : DS) : Option (Int × Int) :=
  match S.stops with
  | [] => none
  | (x, y, z) :: _ => if 1 < x then none else some (y, z)
/-- The plan behind an operation that is counted. -/
def DS.tick (S : DS) : DS :=
  match S.stops with
  | [] => S
  | (x, y, z) :: l => if 1 < x then { S with stops := (x - 1, y, z) :: l } else { S with stops := l }
def DS.step (S : DS) : DS := { S with steps := S.steps + 1 }
theorem due_quiet {B d m clk : Nat} {sv : Value} {S : DS} {F : List FE} {w : World} (h : DiskAt B d m clk sv S F w) (hok : S.ok) (hd : S.due = none) :
    Calls Tryz.prog 66 #[.pointer (some ⟨d, 0, none⟩)] w fun e w' => e = .returned (.tuple #[.agg #[.int .i64 0, .int .i64 0, .int .i64 0], .bool false]) ∧ DiskAt B d m clk sv S.tick F w' ∧ Stays (fpOf d m sv F) w w' := by
  cases hs : S.stops with
  | nil =>
    have e : S.tick = S := by unfold DS.tick; rw [hs]
    rw [e]
    refine (due_none h hs).mono ?_
    rintro e w' ⟨rfl, hb⟩
    exact ⟨rfl, h.below hb, Stays.ofBelow hb⟩
  | cons s l =>
    obtain ⟨x, y, z⟩ := s
    have hx : 1 < x := by
      unfold DS.due at hd
      rw [hs] at hd
      simp only at hd
      by_cases hx : 1 < x
      · exact hx
      · rw [if_neg hx] at hd; cases hd
    have e : S.tick = { S with stops := (x - 1, y, z) :: l } := by unfold DS.tick; rw [hs]; simp only; rw [if_pos hx]
    rw [e]
    have := hok (x, y, z) (by rw [hs]; simp)
    exact due_later h x y z l hs hx this.1.2
theorem due_stop {B d m clk : Nat} {sv : Value} {S : DS} {F : List FE} {w : World} (h : DiskAt B d m clk sv S F w) (y z : Int) (hd : S.due = some (y, z)) :
    Calls Tryz.prog 66 #[.pointer (some ⟨d, 0, none⟩)] w fun e w' => ∃ x, e = .returned (.tuple #[.agg #[.int .i64 x, .int .i64 y, .int .i64 z], .bool true]) ∧ ∃ sv', DiskAt B d m clk sv' S.tick F w' ∧ Stays (fpOf d m sv F) w w' ∧ ∀ b, b ∈ fpOf d m sv' F → b ∈ fpOf d m sv F := by
  cases hs : S.stops with
  | nil => unfold DS.due at hd; rw [hs] at hd; cases hd
  | cons s l =>
    obtain ⟨x, y', z'⟩ := s
    unfold DS.due at hd
    rw [hs] at hd
    simp only at hd
    by_cases hx : 1 < x
    · rw [if_pos hx] at hd; cases hd
    · rw [if_neg hx] at hd
      simp only [Option.some.injEq, Prod.mk.injEq] at hd
      obtain ⟨rfl, rfl⟩ := hd
      have e : S.tick = { S with stops := l } := by unfold DS.tick; rw [hs]; simp only; rw [if_neg hx]
      rw [e]
      refine (due_now h x y' z' l hs hx).mono ?_
      rintro e w' ⟨rfl, r⟩
      exact ⟨x, rfl, r⟩
theorem step_world {B d m clk : Nat} {sv : Value} {S : DS} {F : List FE} {w : World} (h : DiskAt B d m clk sv S F w) (hn : S.steps < 1000000000) :
    DiskAt B d m clk sv S.step F (w.setCell ⟨d, 2, none⟩ (.int .i64 ((S.steps : Int) + 1))) ∧ Stays (fpOf d m sv F) w (w.setCell ⟨d, 2, none⟩ (.int .i64 ((S.steps : Int) + 1))) := by
  refine ⟨h.turn S.step rfl rfl hn ?_ (by simp [World.setCell]) (fun b _ hb => Below.heap_setCell _ _ _ _ hb), Stays.setCell (p := ⟨d, 2, none⟩) (Stays.refl _ _) (.inl mem_fp_self) _⟩
  have hs := h.self
  unfold selfObj at hs
  rw [heap_setCell_at _ hs]
  rfl
set_option maxHeartbeats 2000000 in
theorem operate_down {A : Whys} {B d m clk : Nat} {sv : Value} {S : DS} {F : List FE} {w : World} (h : DiskAt B d m clk sv S F w) (he : Env A B w) (hr : S.runs = false) (op name : ByteArray) (code : Int) (wn pn : Nat) (wc pc : Array Value) :
    Calls Tryz.prog 39 #[.pointer (some ⟨d, 0, none⟩), .string op, .string name, .int .i64 code, .func (.func wn) #[] wc, .func (.func pn) #[] pc] w fun e w' => e = .returned (failV w.heap.size) ∧ w' = w.alloc (failObj A op name 0 93) := by
  have hD := Lib.hid (Down_any h)
  rw [hr] at hD
  have hF := Lib.hid (fail_any A B op name 0 93 w he)
  clear h he hr
  go_enter Tryz.func39, Tryz.ntmps39
  go_wp2_with (first | (go_at_call 30; refine hD.out.mono ?_; rintro e w' ⟨rfl, rfl⟩) | (go_at_call 33; refine hF.out.mono ?_; rintro e w' ⟨rfl, rfl⟩))
  go_ret
  exact ⟨rfl, rfl⟩
/-- A function of this program. -/
def IsFn (n : Nat) : Prop := ∀ (args : Array Value) (W : World), (callFunc n args).run Tryz.prog W = .ok (.enter n args) W
set_option maxHeartbeats 4000000 in
/-- An operation that is not refused, without a stop: what 'whole' does is done, behind the count. -/
theorem operate_whole {B d m clk : Nat} {sv : Value} {S : DS} {F : List FE} {w : World} (h : DiskAt B d m clk sv S F w) (hr : S.runs = true) (hok : S.ok) (hn : S.steps < 1000000000) (hd : S.due = none) (op name : ByteArray) (wn pn : Nat) (wc pc : Array Value) (R : World → World → Prop) (hwn : IsFn wn)
    (hW : ∀ W, DiskAt B d m clk sv S.step.tick F W → Stays (fpOf d m sv F) w W → Calls Tryz.prog wn wc W fun e W' => e = .returned (.tuple #[]) ∧ R W W') :
    Calls Tryz.prog 39 #[.pointer (some ⟨d, 0, none⟩), .string op, .string name, .int .i64 0, .func (.func wn) #[] wc, .func (.func pn) #[] pc] w fun e w' => e = .returned .nilIface ∧ ∃ W, DiskAt B d m clk sv S.step.tick F W ∧ Stays (fpOf d m sv F) w W ∧ R W w' := by
  have hD := Lib.hid (Down_any h)
  rw [hr] at hD
  obtain ⟨hD1, hS1⟩ := step_world h hn
  have hU := Lib.hid (due_quiet hD1 hok (by unfold DS.due at *; exact hd))
  have HS1 := Lib.hid hS1
  have HW := Lib.hid hW
  have c2 := h.cells.c2
  have f2 := h.cells.f2
  clear h hr hok hd hW hD1 hS1
  go_enter Tryz.func39, Tryz.ntmps39
  go_upto_region 10 with (first | (go_at_call 30; refine hD.out.mono ?_; rintro e w' ⟨rfl, rfl⟩) | (go_at_call 66; refine hU.out.mono ?_; rintro e w3 ⟨rfl, hD3, hS3⟩))
  have hB3 : DiskAt B d m clk sv S.step.tick F (w3.alloc (.cells #[.int .i64 0, .int .i64 0, .int .i64 0] 61)) := hD3.alloc _
  have hT3 : Stays (fpOf d m sv F) w' (w3.alloc (.cells #[.int .i64 0, .int .i64 0, .int .i64 0] 61)) := (HS1.out.trans hS3 (fun b hb => .inl hb)).alloc _
  generalize w3.alloc (.cells #[.int .i64 0, .int .i64 0, .int .i64 0] 61) = w4 at *
  have HC := Lib.hid (HW.out w4 hB3 hT3)
  have HB := Lib.hid (And.intro hB3 hT3)
  have hcf := hwn wc
  clear hB3 hT3 hD3 hS3 hU hD HW HS1
  go_wp2_with fail
  refine HC.out.mono ?_
  rintro e w5 ⟨rfl, hR⟩
  have HR := Lib.hid hR
  clear hR
  go_wp2_with fail
  go_ret
  exact ⟨rfl, w4, HB.out.1, HB.out.2, HR.out⟩
set_option maxHeartbeats 4000000 in
/-- One that is refused, without a stop. -/
theorem operate_refused {A : Whys} {B d m clk : Nat} {sv : Value} {S : DS} {F : List FE} {w : World} (h : DiskAt B d m clk sv S F w) (he : Env A B w) (hr : S.runs = true) (hok : S.ok) (hn : S.steps < 1000000000) (hd : S.due = none) (op name : ByteArray) (code : Int) (hc : code ≠ 0) (wn pn : Nat) (wc pc : Array Value) :
    Calls Tryz.prog 39 #[.pointer (some ⟨d, 0, none⟩), .string op, .string name, .int .i64 code, .func (.func wn) #[] wc, .func (.func pn) #[] pc] w fun e w' => ∃ p, e = .returned (failV p) ∧ w'.heap[p]? = some (failObj A op name ((S.steps : Int) + 1) code) ∧ w.heap.size ≤ p ∧ p ∉ fpOf d m sv F ∧ DiskAt B d m clk sv S.step.tick F w' ∧ Stays (fpOf d m sv F) w w' := by
  have hD := Lib.hid (Down_any h)
  rw [hr] at hD
  obtain ⟨hD1, hS1⟩ := step_world h hn
  have hU := Lib.hid (due_quiet hD1 hok (by unfold DS.due at *; exact hd))
  have HS1 := Lib.hid hS1
  have HEn := Lib.hid he
  have HBs := Lib.hid h.base
  have HF := Lib.hid (fun W (hW : Env A B W) => fail_any A B op name ((S.steps : Int) + 1) code W hW)
  have hst : S.step.tick.steps = S.steps + 1 := by
    unfold DS.tick
    split
    · rfl
    · split <;> rfl
  have c2 := h.cells.c2
  have f2 := h.cells.f2
  have hc1 := beqI_no hc
  have hc2 : (code != 0) = true := by simp [hc]
  clear h hr hok hd hD1 hS1 he
  go_enter Tryz.func39, Tryz.ntmps39
  go_upto_region 10 with (first | (go_at_call 30; refine hD.out.mono ?_; rintro e w' ⟨rfl, rfl⟩) | (go_at_call 66; refine hU.out.mono ?_; rintro e w3 ⟨rfl, hD3, hS3⟩))
  have hB3 : DiskAt B d m clk sv S.step.tick F (w3.alloc (.cells #[.int .i64 0, .int .i64 0, .int .i64 0] 61)) := hD3.alloc _
  have hT3 : Stays (fpOf d m sv F) w' (w3.alloc (.cells #[.int .i64 0, .int .i64 0, .int .i64 0] 61)) := (HS1.out.trans hS3 (fun b hb => .inl hb)).alloc _
  generalize w3.alloc (.cells #[.int .i64 0, .int .i64 0, .int .i64 0] 61) = w4 at *
  have HB := Lib.hid (And.intro hB3 hT3)
  have HE4 := Lib.hid (HEn.out.stays hT3 HBs.out)
  have k2 := hB3.cells.c2
  rw [hst] at k2
  have k3 : w4.cell? ⟨d, 2, none⟩ = some (.int .i64 ((S.steps : Int) + 1)) := by rw [k2]; rfl
  clear hB3 hT3 hD3 hS3 hU hD HS1 k2 hst c2 f2
  go_wp2_with (go_at_call 33; refine (HF.out _ HE4.out).mono ?_; rintro e w5 ⟨rfl, hw5⟩; have HW5 := Lib.hid hw5; clear hw5)
  go_ret
  refine ⟨w4.heap.size, rfl, ?_, ?_, ?_, ?_, ?_⟩
  · rw [HW5.out]; exact heap_alloc_new _ _
  · exact HB.out.2.size
  · exact fun e => Nat.lt_irrefl _ (HB.out.1.lt e)
  · rw [HW5.out]; exact HB.out.1.alloc _
  · rw [HW5.out]; exact HB.out.2.alloc _
/-- What is left behind a stop. -/
def Stopped (A : Whys) (B d m : Nat) (sv : Value) (S : DS) (F : List FE) (op name : ByteArray) (G : List PF) (w : World) (p : Nat) (w' : World) : Prop :=
  ∃ sv' clk' F', DiskAt B d m clk' sv' { S with runs := false } F' w' ∧ F'.map FE.pl = G ∧ Stays (fpOf d m sv F) w w' ∧ (∀ b, b ∈ fpOf d m sv' F' → b ∈ fpOf d m sv F ∨ w.heap.size ≤ b) ∧ w'.heap[p]? = some (failObj A op name (S.steps : Int) 93) ∧ w.heap.size ≤ p ∧ p ∉ fpOf d m sv' F'
theorem tick_steps (S : DS) : S.step.tick.steps = S.steps + 1 := by
  unfold DS.tick
  split
  · rfl
  · split <;> rfl
theorem due_rest {S : DS} {y z : Int} (hok : S.ok) (hd : S.due = some (y, z)) : inI y ∧ inI z := by
  unfold DS.due at hd
  cases hs : S.stops with
  | nil => rw [hs] at hd; cases hd
  | cons s l =>
    obtain ⟨x, y', z'⟩ := s
    rw [hs] at hd
    simp only at hd
    split at hd
    · cases hd
    · simp only [Option.some.injEq, Prod.mk.injEq] at hd
      obtain ⟨rfl, rfl⟩ := hd
      have := hok (x, y', z') (by rw [hs]; simp)
      exact this.2
set_option maxHeartbeats 4000000 in
/-- A stop within one that is refused. -/
theorem operate_stop_refused {A : Whys} {B d m clk : Nat} {sv : Value} {S : DS} {F : List FE} {w : World} (h : DiskAt B d m clk sv S F w) (he : Env A B w) (hr : S.runs = true) (hok : S.ok) (hn : S.steps < 1000000000) (y z : Int) (hd : S.due = some (y, z)) (op name : ByteArray) (code : Int) (hc : code ≠ 0) (wn pn : Nat) (wc pc : Array Value) :
    Calls Tryz.prog 39 #[.pointer (some ⟨d, 0, none⟩), .string op, .string name, .int .i64 code, .func (.func wn) #[] wc, .func (.func pn) #[] pc] w fun e w' => ∃ p, e = .returned (failV p) ∧ Stopped A B d m sv S.step.tick F op name ((F.map FE.pl).map (tornP z)) w p w' := by
  have hD := Lib.hid (Down_any h)
  rw [hr] at hD
  obtain ⟨hD1, hS1⟩ := step_world h hn
  have hU := Lib.hid (due_stop hD1 y z (by unfold DS.due at *; exact hd))
  obtain ⟨_, hz⟩ := due_rest hok hd
  have HS1 := Lib.hid hS1
  have HEn := Lib.hid he
  have HBs := Lib.hid h.base
  have HF := Lib.hid (fun W (hW : Env A B W) => fail_any A B op name ((S.steps : Int) + 1) 93 W hW)
  have HTe := Lib.hid (fun W sv' (hW : DiskAt B d m clk sv' S.step.tick F W) => tear_any hW z hz.1 hz.2)
  have HSt := Lib.hid (tick_steps S)
  have c2 := h.cells.c2
  have f2 := h.cells.f2
  have hc1 := beqI_no hc
  clear h hr hok hd hD1 hS1 he hz
  go_enter Tryz.func39, Tryz.ntmps39
  go_upto_region 6 with (first | (go_at_call 30; refine hD.out.mono ?_; rintro e w' ⟨rfl, rfl⟩) | (go_at_call 66; refine hU.out.mono ?_; rintro e w3 ⟨x, rfl, sv', hD3, hS3, hM3⟩))
  have hB3 : DiskAt B d m clk sv' S.step.tick F (w3.alloc (.cells #[.int .i64 x, .int .i64 y, .int .i64 z] 61)) := hD3.alloc _
  have hT3 : Stays (fpOf d m sv F) w' (w3.alloc (.cells #[.int .i64 x, .int .i64 y, .int .i64 z] 61)) := (HS1.out.trans hS3 (fun b hb => .inl hb)).alloc _
  have q2 : (w3.alloc (.cells #[.int .i64 x, .int .i64 y, .int .i64 z] 61)).cell? ⟨w3.heap.size, 2, none⟩ = some (.int .i64 z) := cell_of (heap_alloc_new w3 _) 2
  have HB := Lib.hid (And.intro hB3 hT3)
  have HM3 := Lib.hid hM3
  generalize w3.heap.size = sb at *
  generalize w3.alloc (.cells #[.int .i64 x, .int .i64 y, .int .i64 z] 61) = w4 at *
  clear hB3 hT3 hD3 hS3 hU hD HS1 hM3 c2 f2
  go_upto_region 9 with (go_at_call 67; refine (HTe.out _ sv' HB.out.1).mono ?_; rintro e w5 ⟨rfl, clk5, F5, hD5, hG5, hS5, hM5⟩)
  have hS6 : Stays (fpOf d m sv F) w' w5 := HB.out.2.trans hS5 (fun b hb => .inl (HM3.out b hb))
  have HE5 := Lib.hid (HEn.out.stays hS6 HBs.out)
  have k2 := hD5.cells.c2
  have k3 : w5.cell? ⟨d, 2, none⟩ = some (.int .i64 ((S.steps : Int) + 1)) := by
    rw [k2]
    show some (Value.int .i64 (S.step.tick.steps : Int)) = _
    rw [HSt.out]; rfl
  have H5 := Lib.hid (And.intro hD5 (And.intro hG5 (And.intro hS6 hM5)))
  clear hD5 hG5 hS5 hM5 hS6 k2
  go_wp2_with (go_at_call 33; refine (HF.out _ HE5.out).mono ?_; rintro e w6 ⟨rfl, hw6⟩; have HW6 := Lib.hid hw6; clear hw6)
  go_ret
  obtain ⟨hD5, hG5, hS6, hM5⟩ := H5.out
  refine ⟨w5.heap.size, rfl, sv', clk5, F5, ?_, hG5, ?_, ?_, ?_, hS6.size, fun e => Nat.lt_irrefl _ (hD5.lt e)⟩
  · rw [HW6.out]; exact hD5.alloc _
  · rw [HW6.out]; exact hS6.alloc _
  · intro b hb
    rcases hM5 b hb with e | e
    · exact .inl (HM3.out b e)
    · exact .inr (Nat.le_trans HB.out.2.size e)
  · rw [HW6.out, HSt.out]; exact heap_alloc_new _ _
end Go.Proofs.YtgadmfbilmlnkabGreatDoor
