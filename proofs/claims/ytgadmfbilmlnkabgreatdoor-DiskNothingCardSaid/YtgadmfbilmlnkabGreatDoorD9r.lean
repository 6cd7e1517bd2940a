/- disk: operate, in one. -/
import Derived.Test.YtgadmfbilmlnkabGreatDoorD9q
namespace Go.Proofs.YtgadmfbilmlnkabGreatDoor
open Go.RowKit Go.Lib

set_option maxHeartbeats 4000000 in
/-- A stop within one that is not refused: what 'part' does is done, and what is not durable is torn off. -/
theorem operate_stop_part {A : Whys} {B d m clk : Nat} {sv : Value} {S : DS} {F : List FE} {w : World} (h : DiskAt B d m clk sv S F w) (he : Env A B w) (hr : S.runs = true) (hok : S.ok) (hn : S.steps < 1000000000) (y z : Int) (hd : S.due = some (y, z)) (op name : ByteArray) (wn pn : Nat) (wc pc : Array Value) (hpn : IsFn pn) (G : List PF)
    (hP : ∀ W sv', DiskAt B d m clk sv' S.step.tick F W → Stays (fpOf d m sv F) w W → (∀ b, b ∈ fpOf d m sv' F → b ∈ fpOf d m sv F) → Calls Tryz.prog pn (#[.int .i64 y] ++ pc) W fun e W' => e = .returned (.tuple #[]) ∧ Did B d m sv' S.step.tick F W G W') :
    Calls Tryz.prog 39 #[.pointer (some ⟨d, 0, none⟩), .string op, .string name, .int .i64 0, .func (.func wn) #[] wc, .func (.func pn) #[] pc] w fun e w' => ∃ p, e = .returned (failV p) ∧ Stopped A B d m sv S.step.tick F op name (G.map (tornP z)) w p w' := by
  have hD := Lib.hid (Down_any h)
  rw [hr] at hD
  obtain ⟨hD1, hS1⟩ := step_world h hn
  have hU := Lib.hid (due_stop hD1 y z (by unfold DS.due at *; exact hd))
  obtain ⟨_, hz⟩ := due_rest hok hd
  have HS1 := Lib.hid hS1
  have HEn := Lib.hid he
  have HBs := Lib.hid h.base
  have HPa := Lib.hid hP
  have HF := Lib.hid (fun W (hW : Env A B W) => fail_any A B op name ((S.steps : Int) + 1) 93 W hW)
  have HTe := Lib.hid (fun W sv' clk' F' (hW : DiskAt B d m clk' sv' S.step.tick F' W) => tear_any hW z hz.1 hz.2)
  have HSt := Lib.hid (tick_steps S)
  have c2 := h.cells.c2
  have f2 := h.cells.f2
  have hcf := hpn (#[.int .i64 y] ++ pc)
  clear h hr hok hd hD1 hS1 he hz hP
  go_enter Tryz.func39, Tryz.ntmps39
  go_upto_region 6 with (first | (go_at_call 30; refine hD.out.mono ?_; rintro e w' ⟨rfl, rfl⟩) | (go_at_call 66; refine hU.out.mono ?_; rintro e w3 ⟨x, rfl, sv', hD3, hS3, hM3⟩))
  have hB3 : DiskAt B d m clk sv' S.step.tick F (w3.alloc (.cells #[.int .i64 x, .int .i64 y, .int .i64 z] 61)) := hD3.alloc _
  have hT3 : Stays (fpOf d m sv F) w' (w3.alloc (.cells #[.int .i64 x, .int .i64 y, .int .i64 z] 61)) := (HS1.out.trans hS3 (fun b hb => .inl hb)).alloc _
  have hsb : (w3.alloc (.cells #[.int .i64 x, .int .i64 y, .int .i64 z] 61)).heap[w3.heap.size]? = some (.cells #[.int .i64 x, .int .i64 y, .int .i64 z] 61 (0, 0)) := heap_alloc_new w3 _
  have hsn : w3.heap.size ∉ fpOf d m sv' F := fun e => Nat.lt_irrefl _ (hD3.lt e)
  have HB := Lib.hid (And.intro hB3 hT3)
  have HM3 := Lib.hid hM3
  generalize w3.heap.size = sb at *
  generalize w3.alloc (.cells #[.int .i64 x, .int .i64 y, .int .i64 z] 61) = w4 at *
  have q1 : w4.cell? ⟨sb, 1, none⟩ = some (.int .i64 y) := cell_of hsb 1
  have HC := Lib.hid (HPa.out w4 sv' hB3 hT3 hM3)
  have HSB := Lib.hid hsb
  have HSN := Lib.hid hsn
  clear hB3 hT3 hD3 hS3 hU hD HS1 hM3 c2 f2 HPa hsb hsn
  go_upto_region 8 with fail
  refine HC.out.mono ?_
  rintro e w5 ⟨rfl, clk5, F5, hD5, hG5, hS5, hM5⟩
  have hsb5 : w5.heap[sb]? = some (.cells #[.int .i64 x, .int .i64 y, .int .i64 z] 61 (0, 0)) := by rw [hS5.block sb (lt_of_heap HSB.out) HSN.out]; exact HSB.out
  have q2 : w5.cell? ⟨sb, 2, none⟩ = some (.int .i64 z) := cell_of hsb5 2
  have hS6 : Stays (fpOf d m sv F) w' w5 := HB.out.2.trans hS5 (fun b hb => .inl (HM3.out b hb))
  have hM6 : ∀ b, b ∈ fpOf d m sv' F5 → b ∈ fpOf d m sv F ∨ w'.heap.size ≤ b := fun b hb => by
    rcases hM5 b hb with e | e
    · exact .inl (HM3.out b e)
    · exact .inr (Nat.le_trans HB.out.2.size e)
  have H5 := Lib.hid (And.intro hD5 (And.intro hG5 (And.intro hS6 hM6)))
  clear hD5 hG5 hS5 hM5 hS6 hM6 hsb5 HC HSB HSN q1 hcf
  go_upto_region 9 with (go_at_call 67; refine (HTe.out _ sv' clk5 F5 H5.out.1).mono ?_; rintro e w6 ⟨rfl, clk6, F6, hD6, hG6, hS6, hM6⟩)
  obtain ⟨hD5, hG5, hS5, hM5⟩ := H5.out
  have hS7 : Stays (fpOf d m sv F) w' w6 := hS5.trans hS6 hM5
  have hM7 : ∀ b, b ∈ fpOf d m sv' F6 → b ∈ fpOf d m sv F ∨ w'.heap.size ≤ b := fun b hb => by
    rcases hM6 b hb with e | e
    · exact hM5 b e
    · exact .inr (Nat.le_trans hS5.size e)
  have HE6 := Lib.hid (HEn.out.stays hS7 HBs.out)
  have k2 := hD6.cells.c2
  have k3 : w6.cell? ⟨d, 2, none⟩ = some (.int .i64 ((S.steps : Int) + 1)) := by
    rw [k2]
    show some (Value.int .i64 (S.step.tick.steps : Int)) = _
    rw [HSt.out]; rfl
  rw [hG5] at hG6
  have H6 := Lib.hid (And.intro hD6 (And.intro hG6 (And.intro hS7 hM7)))
  clear hD6 hG6 hS6 hM6 hS7 hM7 k2 hD5 hG5 hS5 hM5 H5
  go_wp2_with (go_at_call 33; refine (HF.out _ HE6.out).mono ?_; rintro e w7 ⟨rfl, hw7⟩; have HW7 := Lib.hid hw7; clear hw7)
  go_ret
  obtain ⟨hD6, hG6, hS7, hM7⟩ := H6.out
  refine ⟨w6.heap.size, rfl, sv', clk6, F6, ?_, hG6, ?_, hM7, ?_, hS7.size, fun e => Nat.lt_irrefl _ (hD6.lt e)⟩
  · rw [HW7.out]; exact hD6.alloc _
  · rw [HW7.out]; exact hS7.alloc _
  · rw [HW7.out, HSt.out]; exact heap_alloc_new _ _
/-- The disk's own cells behind an operation. -/
def DS.next (S : DS) : DS := if S.runs = true then (match S.due with | none => S.step.tick | some _ => { S.step.tick with runs := false }) else S
/-- Its files. -/
def nextF (S : DS) (code : Int) (P G : List PF) (Gp : Int → List PF) : List PF :=
  if S.runs = true then (match S.due with | none => if code = 0 then G else P | some (y, z) => (if code = 0 then Gp y else P).map (tornP z)) else P
def errC (S : DS) (code : Int) : Int := if S.runs = true then (match S.due with | none => code | some _ => 93) else 93
def errS (S : DS) : Int := if S.runs = true then (S.steps : Int) + 1 else 0
/-- What an operation answers. -/
def ErrAt (A : Whys) (op name : ByteArray) (step code : Int) (N : Nat) (fp : List Nat) (r : Value) (w' : World) : Prop :=
  (code = 0 ∧ r = .nilIface) ∨ (code ≠ 0 ∧ ∃ p, r = failV p ∧ w'.heap[p]? = some (failObj A op name step code) ∧ N ≤ p ∧ p ∉ fp)
/-- Behind an operation. -/
def After (A : Whys) (B d m : Nat) (sv : Value) (S : DS) (F : List FE) (op name : ByteArray) (code : Int) (G : List PF) (Gp : Int → List PF) (w : World) (e : Ending) (w' : World) : Prop :=
  ∃ r sv' clk' F', e = .returned r ∧ DiskAt B d m clk' sv' S.next F' w' ∧ F'.map FE.pl = nextF S code (F.map FE.pl) G Gp ∧ Stays (fpOf d m sv F) w w' ∧ (∀ b, b ∈ fpOf d m sv' F' → b ∈ fpOf d m sv F ∨ w.heap.size ≤ b) ∧ ErrAt A op name (errS S) (errC S code) w.heap.size (fpOf d m sv' F') r w'
theorem operate_after {A : Whys} {B d m clk : Nat} {sv : Value} {S : DS} {F : List FE} {w : World} (h : DiskAt B d m clk sv S F w) (he : Env A B w) (hok : S.ok) (hn : S.steps < 1000000000) (op name : ByteArray) (code : Int) (wn pn : Nat) (wc pc : Array Value) (hwn : IsFn wn) (hpn : IsFn pn) (G : List PF) (Gp : Int → List PF)
    (hW : code = 0 → S.runs = true → S.due = none → ∀ W, DiskAt B d m clk sv S.step.tick F W → Stays (fpOf d m sv F) w W → Calls Tryz.prog wn wc W fun e W' => e = .returned (.tuple #[]) ∧ Did B d m sv S.step.tick F W G W')
    (hP : code = 0 → S.runs = true → ∀ y W sv', inI y → DiskAt B d m clk sv' S.step.tick F W → Stays (fpOf d m sv F) w W → (∀ b, b ∈ fpOf d m sv' F → b ∈ fpOf d m sv F) → Calls Tryz.prog pn (#[.int .i64 y] ++ pc) W fun e W' => e = .returned (.tuple #[]) ∧ Did B d m sv' S.step.tick F W (Gp y) W') :
    Calls Tryz.prog 39 #[.pointer (some ⟨d, 0, none⟩), .string op, .string name, .int .i64 code, .func (.func wn) #[] wc, .func (.func pn) #[] pc] w fun e w' => After A B d m sv S F op name code G Gp w e w' := by
  by_cases hr : S.runs = true
  · cases hd : S.due with
    | none =>
      have en : S.next = S.step.tick := by unfold DS.next; rw [if_pos hr, hd]
      have ef : nextF S code (F.map FE.pl) G Gp = if code = 0 then G else F.map FE.pl := by unfold nextF; rw [if_pos hr, hd]
      have ec : errC S code = code := by unfold errC; rw [if_pos hr, hd]
      have es : errS S = (S.steps : Int) + 1 := by unfold errS; rw [if_pos hr]
      by_cases hc : code = 0
      · subst hc
        refine (operate_whole h hr hok hn hd op name wn pn wc pc (fun W W' => Did B d m sv S.step.tick F W G W') hwn (hW rfl hr hd)).mono ?_
        rintro e w' ⟨rfl, W, hDW, hSW, clk', F', hD', hG', hS', hM'⟩
        refine ⟨.nilIface, sv, clk', F', rfl, by rw [en]; exact hD', by rw [ef, if_pos rfl]; exact hG', hSW.trans hS' (fun b hb => .inl hb), fun b hb => ?_, by rw [ec]; exact .inl ⟨rfl, rfl⟩⟩
        rcases hM' b hb with e | e
        · exact .inl e
        · exact .inr (Nat.le_trans hSW.size e)
      · refine (operate_refused h he hr hok hn hd op name code hc wn pn wc pc).mono ?_
        rintro e w' ⟨p, rfl, hp, hpn', hpo, hD', hS'⟩
        exact ⟨failV p, sv, clk, F, rfl, by rw [en]; exact hD', by rw [ef, if_neg hc], hS', fun b hb => .inl hb, by rw [ec, es]; exact .inr ⟨hc, p, rfl, hp, hpn', hpo⟩⟩
    | some yz =>
      obtain ⟨y, z⟩ := yz
      have en : S.next = { S.step.tick with runs := false } := by unfold DS.next; rw [if_pos hr, hd]
      have ef : nextF S code (F.map FE.pl) G Gp = (if code = 0 then Gp y else F.map FE.pl).map (tornP z) := by unfold nextF; rw [if_pos hr, hd]
      have ec : errC S code = 93 := by unfold errC; rw [if_pos hr, hd]
      have es : errS S = (S.step.tick.steps : Int) := by unfold errS; rw [if_pos hr, tick_steps]; rfl
      by_cases hc : code = 0
      · subst hc
        refine (operate_stop_part h he hr hok hn y z hd op name wn pn wc pc hpn (Gp y) (fun W sv' => hP rfl hr y W sv' (due_rest hok hd).1)).mono ?_
        rintro e w' ⟨p, rfl, sv', clk', F', hD', hG', hS', hM', hp, hpn', hpo⟩
        exact ⟨failV p, sv', clk', F', rfl, by rw [en]; exact hD', by rw [ef, if_pos rfl]; exact hG', hS', hM', by rw [ec, es]; exact .inr ⟨by decide, p, rfl, hp, hpn', hpo⟩⟩
      · refine (operate_stop_refused h he hr hok hn y z hd op name code hc wn pn wc pc).mono ?_
        rintro e w' ⟨p, rfl, sv', clk', F', hD', hG', hS', hM', hp, hpn', hpo⟩
        exact ⟨failV p, sv', clk', F', rfl, by rw [en]; exact hD', by rw [ef, if_neg hc]; exact hG', hS', hM', by rw [ec, es]; exact .inr ⟨by decide, p, rfl, hp, hpn', hpo⟩⟩
  · have en : S.next = S := by unfold DS.next; rw [if_neg hr]
    have ef : nextF S code (F.map FE.pl) G Gp = F.map FE.pl := by unfold nextF; rw [if_neg hr]
    have ec : errC S code = 93 := by unfold errC; rw [if_neg hr]
    have es : errS S = 0 := by unfold errS; rw [if_neg hr]
    refine (operate_down h he (by simpa using hr) op name code wn pn wc pc).mono ?_
    rintro e w' ⟨rfl, rfl⟩
    exact ⟨failV w.heap.size, sv, clk, F, rfl, by rw [en]; exact h.alloc _, by rw [ef], (Stays.refl _ _).alloc _, fun b hb => .inl hb, by rw [ec, es]; exact .inr ⟨by decide, w.heap.size, rfl, heap_alloc_new _ _, Nat.le_refl _, fun e => Nat.lt_irrefl _ (h.lt e)⟩⟩
/-- Blocks of the call's own are laid ahead. -/
theorem After.ahead {A : Whys} {B d m : Nat} {sv : Value} {S : DS} {F : List FE} {op name : ByteArray} {code : Int} {G : List PF} {Gp : Int → List PF} {w w1 w' : World} {e : Ending} (hb : Below w.heap.size w w1) (h : After A B d m sv S F op name code G Gp w1 e w') : After A B d m sv S F op name code G Gp w e w' := by
  obtain ⟨r, sv', clk', F', he, hD, hG, hS, hM, hE⟩ := h
  refine ⟨r, sv', clk', F', he, hD, hG, (Stays.ofBelow hb).trans hS (fun b hb => .inl hb), fun b hb' => ?_, ?_⟩
  · rcases hM b hb' with e | e
    · exact .inl e
    · exact .inr (Nat.le_trans hb.size e)
  · rcases hE with hE | ⟨hc, p, hr, hp, hn, ho⟩
    · exact .inl hE
    · exact .inr ⟨hc, p, hr, hp, Nat.le_trans hb.size hn, ho⟩
end Go.Proofs.YtgadmfbilmlnkabGreatDoor
