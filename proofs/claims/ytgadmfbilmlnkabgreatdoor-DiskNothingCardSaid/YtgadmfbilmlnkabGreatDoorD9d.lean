/- disk: find, what is read off a disk, New, errors. -/
import Derived.Test.YtgadmfbilmlnkabGreatDoorD9c
import Derived.Carry
namespace Go.Proofs.YtgadmfbilmlnkabGreatDoor
open Go.RowKit

/-- Where the reasons lie. -/
structure Whys where
  n : Addr
  m : Addr
  q : Addr
  d : Addr
  r : Addr
def Whys.at (A : Whys) (code : Int) : Addr := if code = 90 then A.n else if code = 91 then A.m else if code = 92 then A.q else if code = 93 then A.d else A.r
def whyV (a : Addr) : Value := .iface 174 (.pointer (some a))
/-- The reasons, in memory below B. -/
structure Env (A : Whys) (B : Nat) (w : World) : Prop where
  n : w.cell? ⟨0, 0, none⟩ = some (whyV A.n)
  m : w.cell? ⟨2, 0, none⟩ = some (whyV A.m)
  q : w.cell? ⟨3, 0, none⟩ = some (whyV A.q)
  d : w.cell? ⟨4, 0, none⟩ = some (whyV A.d)
  r : w.cell? ⟨5, 0, none⟩ = some (whyV A.r)
  row : ∀ a, a = A.n ∨ a = A.m ∨ a = A.q ∨ a = A.d ∨ a = A.r → ∃ c t, w.heap[a.block]? = some (.cells c t (0, 0))
  apart : [A.n, A.m, A.q, A.d, A.r].Nodup
  lt : ∀ a, a = A.n ∨ a = A.m ∨ a = A.q ∨ a = A.d ∨ a = A.r → a.block < B
  lo : 6 ≤ B
  hi : B ≤ w.heap.size
theorem Env.below {A : Whys} {B : Nat} {w w' : World} (h : Env A B w) (hb : Below B w w') : Env A B w' := by
  have hc : ∀ g, g < 6 → w'.cell? ⟨g, 0, none⟩ = w.cell? ⟨g, 0, none⟩ := fun g hg => World.cell?_of_block (hb.block g (by have := h.lo; omega))
  exact ⟨by rw [hc _ (by decide)]; exact h.n, by rw [hc _ (by decide)]; exact h.m, by rw [hc _ (by decide)]; exact h.q, by rw [hc _ (by decide)]; exact h.d, by rw [hc _ (by decide)]; exact h.r,
    fun a ha => by rw [hb.block _ (h.lt a ha)]; exact h.row a ha, h.apart, h.lt, h.lo, Nat.le_trans h.hi hb.size⟩
theorem Env.stays {A : Whys} {B : Nat} {w w' : World} {fp : List Nat} (h : Env A B w) (hs : Stays fp w w') (hf : ∀ b, b ∈ fp → B ≤ b) : Env A B w' := h.below (hs.below hf h.hi)
theorem Env.alloc {A : Whys} {B : Nat} {w : World} (h : Env A B w) (o : Obj) : Env A B (w.alloc o) := h.below ((Below.refl _ _).alloc h.hi o)
theorem Env.drew {A : Whys} {B : Nat} {w : World} (h : Env A B w) : Env A B w.drew := h.below (Below.refl _ _).drew
theorem Env.setCell {A : Whys} {B : Nat} {w : World} (h : Env A B w) {p : Addr} (hp : B ≤ p.block) (v : Value) : Env A B (w.setCell p v) := h.below ((Below.refl _ _).setCell hp v)

set_option maxHeartbeats 1000000 in
theorem why_any (A : Whys) (B : Nat) (code : Int) (w : World) (h : Env A B w) :
    Calls Tryz.prog 62 #[.int .i64 code] w fun e w' => e = .returned (whyV (A.at code)) ∧ w' = w := by
  have hn := h.n; have hm := h.m; have hq := h.q; have hd := h.d; have hr := h.r
  unfold whyV at *
  unfold Whys.at
  by_cases e0 : code = 90
  · subst e0
    rw [if_pos rfl]
    go_enter Tryz.func62, Tryz.ntmps62
    go_wp2
    go_ret
    exact ⟨rfl, rfl⟩
  by_cases e1 : code = 91
  · subst e1
    rw [if_neg (by decide), if_pos rfl]
    go_enter Tryz.func62, Tryz.ntmps62
    go_wp2
    go_ret
    exact ⟨rfl, rfl⟩
  by_cases e2 : code = 92
  · subst e2
    rw [if_neg (by decide), if_neg (by decide), if_pos rfl]
    go_enter Tryz.func62, Tryz.ntmps62
    go_wp2
    go_ret
    exact ⟨rfl, rfl⟩
  by_cases e3 : code = 93
  · subst e3
    rw [if_neg (by decide), if_neg (by decide), if_neg (by decide), if_pos rfl]
    go_enter Tryz.func62, Tryz.ntmps62
    go_wp2
    go_ret
    exact ⟨rfl, rfl⟩
  · rw [if_neg e0, if_neg e1, if_neg e2, if_neg e3]
    have b0 := beqI_no e0; have b1 := beqI_no e1; have b2 := beqI_no e2; have b3 := beqI_no e3
    go_enter Tryz.func62, Tryz.ntmps62
    go_wp2
    go_ret
    exact ⟨rfl, rfl⟩
/-- An error in memory. -/
def failObj (A : Whys) (op name : ByteArray) (step code : Int) : Obj := .cells #[.string op, .string name, .int .i64 step, .int .i64 code, whyV (A.at code)] 101 (0, 0)
def failV (b : Nat) : Value := .iface 97 (.pointer (some ⟨b, 0, none⟩))
set_option maxHeartbeats 1000000 in
theorem fail_any (A : Whys) (B : Nat) (op name : ByteArray) (step code : Int) (w : World) (h : Env A B w) :
    Calls Tryz.prog 33 #[.string op, .string name, .int .i64 step, .int .i64 code] w fun e w' => e = .returned (failV w.heap.size) ∧ w' = w.alloc (failObj A op name step code) := by
  have hW := Lib.hid (fun W (hW : Env A B W) => why_any A B code W hW)
  unfold failV failObj whyV
  go_enter Tryz.func33, Tryz.ntmps33
  go_wp2_with (go_at_call 62; refine (hW.out _ h).mono ?_; rintro e w' ⟨rfl, rfl⟩; unfold whyV)
  go_ret
  exact ⟨rfl, rfl⟩
theorem find_nil (n : ByteArray) (w : World) :
    Calls Tryz.prog 64 #[.pointer none, .string n] w fun e w' => e = .returned (.pointer none) ∧ w' = w := by
  go_enter Tryz.func64, Tryz.ntmps64
  go_wp2
  go_ret
  exact ⟨rfl, rfl⟩
theorem find_run {B d m clk : Nat} {sv : Value} {S : DS} {F : List FE} {w : World} (h : DiskAt B d m clk sv S F w) (n : ByteArray) {r : Option (Nat × Value)} (hf : Instr.findNow .string (.string n) (F.map FE.entry) 0 = some r) :
    Calls Tryz.prog 64 #[.pointer (some ⟨d, 0, none⟩), .string n] w fun e w' => e = .returned ((r.map (·.2)).getD (.pointer none)) ∧ w' = w := by
  have hl := run_look n h.map (r := r) (by simpa using hf)
  have c5 := h.cells.c5
  generalize (r.map (·.2)).getD (.pointer none) = v at *
  clear hf
  go_enter Tryz.func64, Tryz.ntmps64
  go_wp2
  go_ret
  exact ⟨rfl, rfl⟩
theorem find_hit {B d m clk : Nat} {sv : Value} {S : DS} {F1 F2 : List FE} {f : FE} {w : World} (h : DiskAt B d m clk sv S (F1 ++ f :: F2) w) (n : ByteArray) (hn : f.name = n) (h1 : ∀ g, g ∈ F1 → g.name ≠ n) :
    Calls Tryz.prog 64 #[.pointer (some ⟨d, 0, none⟩), .string n] w fun e w' => e = .returned (.pointer (some ⟨f.blk, 0, none⟩)) ∧ w' = w :=
  find_run h n (findNow_hit n F1 f F2 hn h1 0)
theorem find_no {B d m clk : Nat} {sv : Value} {S : DS} {F : List FE} {w : World} (h : DiskAt B d m clk sv S F w) (n : ByteArray) (h1 : ∀ g, g ∈ F → g.name ≠ n) :
    Calls Tryz.prog 64 #[.pointer (some ⟨d, 0, none⟩), .string n] w fun e w' => e = .returned (.pointer none) ∧ w' = w :=
  find_run h n (findNow_no n F h1 0)
theorem Quota_any {B d m clk : Nat} {sv : Value} {S : DS} {F : List FE} {w : World} (h : DiskAt B d m clk sv S F w) :
    Calls Tryz.prog 29 #[.pointer (some ⟨d, 0, none⟩)] w fun e w' => e = .returned (.int .i64 (S.quota : Int)) ∧ w' = w := by
  have c0 := h.cells.c0
  go_enter Tryz.func29, Tryz.ntmps29
  go_wp2
  go_ret
  exact ⟨rfl, rfl⟩
theorem Used_any {B d m clk : Nat} {sv : Value} {S : DS} {F : List FE} {w : World} (h : DiskAt B d m clk sv S F w) :
    Calls Tryz.prog 14 #[.pointer (some ⟨d, 0, none⟩)] w fun e w' => e = .returned (.int .i64 (usedF F : Int)) ∧ w' = w := by
  have c0 := h.cells.c1
  go_enter Tryz.func14, Tryz.ntmps14
  go_wp2
  go_ret
  exact ⟨rfl, rfl⟩
theorem Steps_any {B d m clk : Nat} {sv : Value} {S : DS} {F : List FE} {w : World} (h : DiskAt B d m clk sv S F w) :
    Calls Tryz.prog 15 #[.pointer (some ⟨d, 0, none⟩)] w fun e w' => e = .returned (.int .i64 (S.steps : Int)) ∧ w' = w := by
  have c0 := h.cells.c2
  go_enter Tryz.func15, Tryz.ntmps15
  go_wp2
  go_ret
  exact ⟨rfl, rfl⟩
theorem Down_any {B d m clk : Nat} {sv : Value} {S : DS} {F : List FE} {w : World} (h : DiskAt B d m clk sv S F w) :
    Calls Tryz.prog 30 #[.pointer (some ⟨d, 0, none⟩)] w fun e w' => e = .returned (.bool (!S.runs)) ∧ w' = w := by
  have c0 := h.cells.c3
  go_enter Tryz.func30, Tryz.ntmps30
  go_wp2
  go_ret
  exact ⟨rfl, rfl⟩
theorem isMade_any {B d m clk : Nat} {sv : Value} {S : DS} {F : List FE} {w : World} (h : DiskAt B d m clk sv S F w) (hq : 1 ≤ S.quota) :
    Calls Tryz.prog 56 #[.pointer (some ⟨d, 0, none⟩)] w fun e w' => e = .returned (.bool true) ∧ w' = w := by
  have hQ := Lib.hid (fun W (hW : DiskAt B d m clk sv S F W) => Quota_any hW)
  go_enter Tryz.func56, Tryz.ntmps56
  go_wp2_with (go_at_call 29; refine (hQ.out _ h).mono ?_; rintro e w' ⟨rfl, rfl⟩)
  go_ret
  exact ⟨ret_bool (by first | rfl | (simp; omega)), rfl⟩
def DS.on (S : DS) : DS := { S with runs := true }
theorem Start_any {B d m clk : Nat} {sv : Value} {S : DS} {F : List FE} {w : World} (h : DiskAt B d m clk sv S F w) (hq : 1 ≤ S.quota) :
    Calls Tryz.prog 23 #[.pointer (some ⟨d, 0, none⟩)] w fun e w' => e = .returned (.tuple #[]) ∧ DiskAt B d m clk sv S.on F w' ∧ Stays (fpOf d m sv F) w w' := by
  have hQ := Lib.hid (fun W (hW : DiskAt B d m clk sv S F W) => isMade_any hW hq)
  have c3 := h.cells.c3
  have f3 := h.cells.f3
  go_enter Tryz.func23, Tryz.ntmps23
  go_wp2_with (go_at_call 56; refine (hQ.out _ h).mono ?_; rintro e w' ⟨rfl, rfl⟩)
  first | refine bodyPost_end (results_none rfl _ _ _) rfl ?_ | refine bodyPost_ret (results_none rfl _ _ _) rfl ?_
  refine ⟨rfl, h.turn S.on rfl rfl h.steps ?_ (by simp [World.setCell]) (fun b _ hb => Below.heap_setCell _ _ _ _ hb), Stays.setCell (p := ⟨d, 3, none⟩) (Stays.refl _ _) (.inl mem_fp_self) _⟩
  have hs := h.self
  unfold selfObj at hs
  rw [heap_setCell_at _ hs]
  rfl
set_option maxHeartbeats 1000000 in
theorem New_bad (A : Whys) (B : Nat) (q : Int) (w : World) (h : Env A B w) (hq : q < 1 ∨ 1048576 < q) :
    Calls Tryz.prog 9 #[.int .i64 q] w fun e w' => e = .returned (.tuple #[.pointer none, failV w.heap.size]) ∧ w' = w.alloc (failObj A ⟨#[110, 101, 119]⟩ ⟨#[]⟩ 0 3) := by
  have hF := Lib.hid (fun W (hW : Env A B W) => fail_any A B ⟨#[110, 101, 119]⟩ ⟨#[]⟩ 0 3 W hW)
  by_cases h1 : q < 1
  all_goals try have h2 : 1048576 < q := by omega
  all_goals
    clear hq
    go_enter Tryz.func9, Tryz.ntmps9
    go_wp2_with (go_at_call 33; refine (hF.out _ h).mono ?_; rintro e w' ⟨rfl, rfl⟩)
    go_ret2
    exact ⟨rfl, rfl⟩
set_option maxHeartbeats 1000000 in
theorem New_ok (B q : Nat) (w : World) (hq : 1 ≤ q) (hq' : q ≤ 1048576) (hB : B ≤ w.heap.size) :
    Calls Tryz.prog 9 #[.int .i64 (q : Int)] w fun e w' => e = .returned (.tuple #[.pointer (some ⟨w.heap.size + 1, 0, none⟩), .nilIface]) ∧ DiskAt B (w.heap.size + 1) w.heap.size 0 (.slice none 0 0) ⟨q, 0, true, []⟩ [] w' ∧ Below w.heap.size w w' := by
  have hmm := @run_makeMap Tryz.prog
  have h1 : ¬ ((q : Int) < 1) := by omega
  have h2 : ¬ (1048576 < (q : Int)) := by omega
  go_enter Tryz.func9, Tryz.ntmps9
  go_wp2
  go_ret2
  refine ⟨rfl, ⟨?_, ?_, ?_, List.nodup_nil, List.nodup_nil, ?_, ⟨none, 0, rfl, .inl rfl⟩, ?_, ?_, ?_, Nat.zero_le _, hq', Nat.zero_le _⟩, ?_⟩
  · have e := heap_alloc_new (w.alloc (.map #[] 0)) (.cells #[.int .i64 (q : Int), .int .i64 0, .int .i64 0, .bool true, .slice none 0 0, .map (some w.heap.size)] 28)
    have hz : (w.alloc (.map #[] 0)).heap.size = w.heap.size + 1 := by simp
    rw [hz] at e
    exact e
  · rw [Below.heap_alloc _ _ _ (by simp)]
    exact heap_alloc_new w _
  · intro f hf; cases hf
  · intro f hf; cases hf
  · simp [fpOf, svBlk]
  · intro b hb
    simp [fpOf, svBlk] at hb
    omega
  · simp; omega
  · exact ((Below.refl _ _).alloc (Nat.le_refl _) _).alloc (by simp) _
end Go.Proofs.YtgadmfbilmlnkabGreatDoor
