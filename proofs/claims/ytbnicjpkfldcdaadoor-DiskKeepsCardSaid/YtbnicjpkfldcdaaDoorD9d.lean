/- disk: find, what is read off a disk, New, errors. -/
import Derived.Test.YtbnicjpkfldcdaaDoorD9c
import Derived.Carry
import Derived.LaidEql
import Derived.Stop.Asserts
import Derived.RowKitTokens
namespace Go.Proofs.YtbnicjpkfldcdaaDoor
open Go.RowKit

/-- Where the reasons lie. -/
structure Whys where
  n : Addr
  m : Addr
  q : Addr
  d : Addr
  r : Addr
def Whys.at (A : Whys) (code : Int) : Addr := if code = 90 then A.n else if code = 91 then A.m else if code = 92 then A.q else if code = 93 then A.d else A.r
def whyV (a : Addr) : Value := .iface 128 (.pointer (some a))
/-- The reasons, in memory below B. -/
structure Env (A : Whys) (B : Nat) (w : World) : Prop where
  n : w.cell? ⟨1, 0, none⟩ = some (whyV A.n)
  m : w.cell? ⟨2, 0, none⟩ = some (whyV A.m)
  q : w.cell? ⟨3, 0, none⟩ = some (whyV A.q)
  d : w.cell? ⟨0, 0, none⟩ = some (whyV A.d)
  r : w.cell? ⟨4, 0, none⟩ = some (whyV A.r)
  row : ∀ a, a = A.n ∨ a = A.m ∨ a = A.q ∨ a = A.d ∨ a = A.r → ∃ c t, w.heap[a.block]? = some (.cells c t (0, 0))
  apart : [A.n, A.m, A.q, A.d, A.r].Nodup
  lt : ∀ a, a = A.n ∨ a = A.m ∨ a = A.q ∨ a = A.d ∨ a = A.r → a.block < B
  lo : 5 ≤ B
  hi : B ≤ w.heap.size
theorem Env.below {A : Whys} {B : Nat} {w w' : World} (h : Env A B w) (hb : Below B w w') : Env A B w' := by
  have hc : ∀ g, g < 5 → w'.cell? ⟨g, 0, none⟩ = w.cell? ⟨g, 0, none⟩ := fun g hg => World.cell?_of_block (hb.block g (by have := h.lo; omega))
  exact ⟨by rw [hc _ (by decide)]; exact h.n, by rw [hc _ (by decide)]; exact h.m, by rw [hc _ (by decide)]; exact h.q, by rw [hc _ (by decide)]; exact h.d, by rw [hc _ (by decide)]; exact h.r,
    fun a ha => by rw [hb.block _ (h.lt a ha)]; exact h.row a ha, h.apart, h.lt, h.lo, Nat.le_trans h.hi hb.size⟩
theorem Env.stays {A : Whys} {B : Nat} {w w' : World} {fp : List Nat} (h : Env A B w) (hs : Stays fp w w') (hf : ∀ b, b ∈ fp → B ≤ b) : Env A B w' := h.below (hs.below hf h.hi)
theorem Env.alloc {A : Whys} {B : Nat} {w : World} (h : Env A B w) (o : Obj) : Env A B (w.alloc o) := h.below ((Below.refl _ _).alloc h.hi o)
theorem Env.drew {A : Whys} {B : Nat} {w : World} (h : Env A B w) : Env A B w.drew := h.below (Below.refl _ _).drew
theorem Env.setCell {A : Whys} {B : Nat} {w : World} (h : Env A B w) {p : Addr} (hp : B ≤ p.block) (v : Value) : Env A B (w.setCell p v) := h.below ((Below.refl _ _).setCell hp v)

set_option maxHeartbeats 1000000 in
theorem why_any (A : Whys) (B : Nat) (code : Int) (w : World) (h : Env A B w) :
    Calls Tryd.prog 43 #[.int .i64 code] w fun e w' => e = .returned (whyV (A.at code)) ∧ w' = w := by
  have hn := h.n; have hm := h.m; have hq := h.q; have hd := h.d; have hr := h.r
  unfold whyV at *
  unfold Whys.at
  by_cases e0 : code = 90
  · subst e0
    rw [if_pos rfl]
    go_enter Tryd.func43, Tryd.ntmps43
    go_wp2
    go_ret
    exact ⟨rfl, rfl⟩
  by_cases e1 : code = 91
  · subst e1
    rw [if_neg (by decide), if_pos rfl]
    go_enter Tryd.func43, Tryd.ntmps43
    go_wp2
    go_ret
    exact ⟨rfl, rfl⟩
  by_cases e2 : code = 92
  · subst e2
    rw [if_neg (by decide), if_neg (by decide), if_pos rfl]
    go_enter Tryd.func43, Tryd.ntmps43
    go_wp2
    go_ret
    exact ⟨rfl, rfl⟩
  by_cases e3 : code = 93
  · subst e3
    rw [if_neg (by decide), if_neg (by decide), if_neg (by decide), if_pos rfl]
    go_enter Tryd.func43, Tryd.ntmps43
    go_wp2
    go_ret
    exact ⟨rfl, rfl⟩
  · rw [if_neg e0, if_neg e1, if_neg e2, if_neg e3]
    have b0 := beqI_no e0; have b1 := beqI_no e1; have b2 := beqI_no e2; have b3 := beqI_no e3
    go_enter Tryd.func43, Tryd.ntmps43
    go_wp2
    go_ret
    exact ⟨rfl, rfl⟩
/-- An error in memory. -/
def failObj (A : Whys) (op name : ByteArray) (step code : Int) : Obj := .cells #[.string op, .string name, .int .i64 step, .int .i64 code, whyV (A.at code)] 82 (0, 0)
def failV (b : Nat) : Value := .iface 79 (.pointer (some ⟨b, 0, none⟩))
set_option maxHeartbeats 1000000 in
theorem fail_any (A : Whys) (B : Nat) (op name : ByteArray) (step code : Int) (w : World) (h : Env A B w) :
    Calls Tryd.prog 20 #[.string op, .string name, .int .i64 step, .int .i64 code] w fun e w' => e = .returned (failV w.heap.size) ∧ w' = w.alloc (failObj A op name step code) := by
  have hW := Lib.hid (fun W (hW : Env A B W) => why_any A B code W hW)
  unfold failV failObj whyV
  go_enter Tryd.func20, Tryd.ntmps20
  go_wp2_with (go_at_call 43; refine (hW.out _ h).mono ?_; rintro e w' ⟨rfl, rfl⟩; unfold whyV)
  go_ret
  exact ⟨rfl, rfl⟩
theorem find_nil (n : ByteArray) (w : World) :
    Calls Tryd.prog 32 #[.pointer none, .string n] w fun e w' => e = .returned (.pointer none) ∧ w' = w := by
  go_enter Tryd.func32, Tryd.ntmps32
  go_wp2
  go_ret
  exact ⟨rfl, rfl⟩
theorem find_run {B d m clk : Nat} {sv : Value} {S : DS} {F : List FE} {w : World} (h : DiskAt B d m clk sv S F w) (n : ByteArray) {r : Option (Nat × Value)} (hf : Instr.findNow .string (.string n) (F.map FE.entry) 0 = some r) :
    Calls Tryd.prog 32 #[.pointer (some ⟨d, 0, none⟩), .string n] w fun e w' => e = .returned ((r.map (·.2)).getD (.pointer none)) ∧ w' = w := by
  have hl := run_look n h.map (r := r) (by simpa using hf)
  have c5 := h.cells.c5
  generalize (r.map (·.2)).getD (.pointer none) = v at *
  clear hf
  go_enter Tryd.func32, Tryd.ntmps32
  go_wp2
  go_ret
  exact ⟨rfl, rfl⟩
theorem find_hit {B d m clk : Nat} {sv : Value} {S : DS} {F1 F2 : List FE} {f : FE} {w : World} (h : DiskAt B d m clk sv S (F1 ++ f :: F2) w) (n : ByteArray) (hn : f.name = n) (h1 : ∀ g, g ∈ F1 → g.name ≠ n) :
    Calls Tryd.prog 32 #[.pointer (some ⟨d, 0, none⟩), .string n] w fun e w' => e = .returned (.pointer (some ⟨f.blk, 0, none⟩)) ∧ w' = w :=
  find_run h n (findNow_hit n F1 f F2 hn h1 0)
theorem find_no {B d m clk : Nat} {sv : Value} {S : DS} {F : List FE} {w : World} (h : DiskAt B d m clk sv S F w) (n : ByteArray) (h1 : ∀ g, g ∈ F → g.name ≠ n) :
    Calls Tryd.prog 32 #[.pointer (some ⟨d, 0, none⟩), .string n] w fun e w' => e = .returned (.pointer none) ∧ w' = w :=
  find_run h n (findNow_no n F h1 0)
theorem Quota_any {B d m clk : Nat} {sv : Value} {S : DS} {F : List FE} {w : World} (h : DiskAt B d m clk sv S F w) :
    Calls Tryd.prog 34 #[.pointer (some ⟨d, 0, none⟩)] w fun e w' => e = .returned (.int .i64 (S.quota : Int)) ∧ w' = w := by
  have c0 := h.cells.c0
  go_enter Tryd.func34, Tryd.ntmps34
  go_wp2
  go_ret
  exact ⟨rfl, rfl⟩
theorem Used_any {B d m clk : Nat} {sv : Value} {S : DS} {F : List FE} {w : World} (h : DiskAt B d m clk sv S F w) :
    Calls Tryd.prog 18 #[.pointer (some ⟨d, 0, none⟩)] w fun e w' => e = .returned (.int .i64 (usedF F : Int)) ∧ w' = w := by
  have c0 := h.cells.c1
  go_enter Tryd.func18, Tryd.ntmps18
  go_wp2
  go_ret
  exact ⟨rfl, rfl⟩
theorem Steps_any {B d m clk : Nat} {sv : Value} {S : DS} {F : List FE} {w : World} (h : DiskAt B d m clk sv S F w) :
    Calls Tryd.prog 19 #[.pointer (some ⟨d, 0, none⟩)] w fun e w' => e = .returned (.int .i64 (S.steps : Int)) ∧ w' = w := by
  have c0 := h.cells.c2
  go_enter Tryd.func19, Tryd.ntmps19
  go_wp2
  go_ret
  exact ⟨rfl, rfl⟩
theorem Down_any {B d m clk : Nat} {sv : Value} {S : DS} {F : List FE} {w : World} (h : DiskAt B d m clk sv S F w) :
    Calls Tryd.prog 9 #[.pointer (some ⟨d, 0, none⟩)] w fun e w' => e = .returned (.bool (!S.runs)) ∧ w' = w := by
  have c0 := h.cells.c3
  go_enter Tryd.func9, Tryd.ntmps9
  go_wp2
  go_ret
  exact ⟨rfl, rfl⟩
theorem isMade_any {B d m clk : Nat} {sv : Value} {S : DS} {F : List FE} {w : World} (h : DiskAt B d m clk sv S F w) (hq : 1 ≤ S.quota) :
    Calls Tryd.prog 21 #[.pointer (some ⟨d, 0, none⟩)] w fun e w' => e = .returned (.bool true) ∧ w' = w := by
  have hQ := Lib.hid (fun W (hW : DiskAt B d m clk sv S F W) => Quota_any hW)
  go_enter Tryd.func21, Tryd.ntmps21
  go_wp2_with (go_at_call 34; refine (hQ.out _ h).mono ?_; rintro e w' ⟨rfl, rfl⟩)
  go_ret
  exact ⟨ret_bool (by first | rfl | (simp; omega)), rfl⟩
def DS.on (S : DS) : DS := { S with runs := true }
theorem Start_any {B d m clk : Nat} {sv : Value} {S : DS} {F : List FE} {w : World} (h : DiskAt B d m clk sv S F w) (hq : 1 ≤ S.quota) :
    Calls Tryd.prog 11 #[.pointer (some ⟨d, 0, none⟩)] w fun e w' => e = .returned (.tuple #[]) ∧ DiskAt B d m clk sv S.on F w' ∧ Stays (fpOf d m sv F) w w' := by
  have hQ := Lib.hid (fun W (hW : DiskAt B d m clk sv S F W) => isMade_any hW hq)
  have c3 := h.cells.c3
  have f3 := h.cells.f3
  go_enter Tryd.func11, Tryd.ntmps11
  go_wp2_with (go_at_call 21; refine (hQ.out _ h).mono ?_; rintro e w' ⟨rfl, rfl⟩)
  first | refine bodyPost_end (results_none rfl _ _ _) rfl ?_ | refine bodyPost_ret (results_none rfl _ _ _) rfl ?_
  refine ⟨rfl, h.turn S.on rfl rfl h.steps ?_ (by simp [World.setCell]) (fun b _ hb => Below.heap_setCell _ _ _ _ hb), Stays.setCell (p := ⟨d, 3, none⟩) (Stays.refl _ _) (.inl mem_fp_self) _⟩
  have hs := h.self
  unfold selfObj at hs
  rw [heap_setCell_at _ hs]
  rfl
set_option maxHeartbeats 1000000 in
theorem New_bad (A : Whys) (B : Nat) (q : Int) (w : World) (h : Env A B w) (hq : q < 1 ∨ 1048576 < q) :
    Calls Tryd.prog 5 #[.int .i64 q] w fun e w' => e = .returned (.tuple #[.pointer none, failV w.heap.size]) ∧ w' = w.alloc (failObj A ⟨#[110, 101, 119]⟩ ⟨#[]⟩ 0 3) := by
  have hF := Lib.hid (fun W (hW : Env A B W) => fail_any A B ⟨#[110, 101, 119]⟩ ⟨#[]⟩ 0 3 W hW)
  by_cases h1 : q < 1
  all_goals try have h2 : 1048576 < q := by omega
  all_goals
    clear hq
    go_enter Tryd.func5, Tryd.ntmps5
    go_wp2_with (go_at_call 20; refine (hF.out _ h).mono ?_; rintro e w' ⟨rfl, rfl⟩)
    go_ret2
    exact ⟨rfl, rfl⟩
set_option maxHeartbeats 1000000 in
theorem New_ok (B q : Nat) (w : World) (hq : 1 ≤ q) (hq' : q ≤ 1048576) (hB : B ≤ w.heap.size) :
    Calls Tryd.prog 5 #[.int .i64 (q : Int)] w fun e w' => e = .returned (.tuple #[.pointer (some ⟨w.heap.size + 1, 0, none⟩), .nilIface]) ∧ DiskAt B (w.heap.size + 1) w.heap.size 0 (.slice none 0 0) ⟨q, 0, true, []⟩ [] w' ∧ Below w.heap.size w w' := by
  have hmm := @run_makeMap Tryd.prog
  have h1 : ¬ ((q : Int) < 1) := by omega
  have h2 : ¬ (1048576 < (q : Int)) := by omega
  go_enter Tryd.func5, Tryd.ntmps5
  go_wp2
  go_ret2
  refine ⟨rfl, ⟨?_, ?_, ?_, List.nodup_nil, List.nodup_nil, ?_, ⟨none, 0, rfl, .inl rfl⟩, ?_, ?_, ?_, Nat.zero_le _, hq', Nat.zero_le _⟩, ?_⟩
  · have e := heap_alloc_new (w.alloc (.map #[] 0)) (.cells #[.int .i64 (q : Int), .int .i64 0, .int .i64 0, .bool true, .slice none 0 0, .map (some w.heap.size)] 54)
    have hz : (w.alloc (.map #[] 0)).heap.size = w.heap.size + 1 := by simp
    rw [hz] at e
    exact e
  · rw [Below.heap_alloc _ _ _ (by simp)]
    exact heap_alloc_new w _
  · intro f hf; cases hf
  · intro f hf; cases hf
  · simp [fpOf, svBlk]
  · intro b hb
    simp [fpOf, svBlk] at hb
    omega
  · simp; omega
  · exact ((Below.refl _ _).alloc (Nat.le_refl _) _).alloc (by simp) _
end Go.Proofs.YtbnicjpkfldcdaaDoor

/- errors.Is of an error that wraps its reason. -/
namespace Go.Proofs.YtbnicjpkfldcdaaDoor
open Go.RowKit Go.Extern.Stop Go.Stop Go.Extern

theorem Tryd.isTypeOf (v : Value) (w : World) : (Extern.ReflectliteType.typeOf #[.iface 128 v]).run Tryd.prog w = .ok (.iface 86 (.agg #[.pointer (some ⟨5, 128, none⟩)])) w := by kernel_rfl
def Tryd.cmpX : Array Value → Sem Value := Extern.ReflectliteType.method fun t => do Extern.Rtype.noPackHeld "Comparable" t; pure (.bool (← typeInfo t).comparable)
theorem Tryd.isComparable (w : World) : (Tryd.cmpX #[.agg #[.pointer (some ⟨5, 128, none⟩)]]).run Tryd.prog w = .ok (.bool true) w := by kernel_rfl
theorem Tryd.isMethodComparable (v : Value) (w : World) : (Go.method 262 86 v "Comparable").run Tryd.prog w = .ok (101, v) w := by kernel_rfl
theorem Tryd.isComp : (Tryd.prog.info? 128).map (·.comparable) = some true := by kernel_rfl
theorem Tryd.isSize : (Tryd.prog.info? 151).map (·.size) = some 1 := by kernel_rfl
theorem Tryd.noIsE (v : Value) (xT : TypeId) (w : World) : (Instr.typeAssert (.iface 128 v) xT 88 true).run Tryd.prog w = .ok (.tuple #[.nilIface, .bool false]) w := run_typeAssert_lacksB Tryd.underlying88 (by kernel_rfl) (by kernel_rfl) v xT w
theorem Tryd.noUnwrapE (v : Value) (xT : TypeId) (w : World) : (Instr.typeAssert (.iface 128 v) xT 91 true).run Tryd.prog w = .ok (.tuple #[.nilIface, .bool false]) w := run_typeAssert_lacksB Tryd.underlying91 (by kernel_rfl) (by kernel_rfl) v xT w
theorem Tryd.noUnwrapsE (v : Value) (xT : TypeId) (w : World) : (Instr.typeAssert (.iface 128 v) xT 93 true).run Tryd.prog w = .ok (.tuple #[.nilIface, .bool false]) w := run_typeAssert_lacksB Tryd.underlying93 (by kernel_rfl) (by kernel_rfl) v xT w
theorem Tryd.noIsW (v : Value) (xT : TypeId) (w : World) : (Instr.typeAssert (.iface 79 v) xT 88 true).run Tryd.prog w = .ok (.tuple #[.nilIface, .bool false]) w := run_typeAssert_lacksB Tryd.underlying88 (by kernel_rfl) (by kernel_rfl) v xT w
theorem Tryd.hasUnwrapW (v : Value) (xT : TypeId) (w : World) : (Instr.typeAssert (.iface 79 v) xT 91 true).run Tryd.prog w = .ok (.tuple #[.iface 79 v, .bool true]) w := run_typeAssert_hasB Tryd.underlying91 (by kernel_rfl) v xT w
theorem Tryd.methodUnwrap (v : Value) (w : World) : (Go.method 262 79 v "Unwrap").run Tryd.prog w = .ok (97, v) w := by kernel_rfl

theorem is_nil (b : Addr) (w : World) :
    Calls Tryd.prog 10 #[.nilIface, whyV b] w fun e w' => e = .returned (.bool false) ∧ w' = w := by
  unfold whyV
  have hn := run_eql_iface_nil_left (P := Tryd.prog) w 128 (.pointer (some b)) Tryd.underlying26
  go_enter Tryd.func10, Tryd.ntmps10
  go_wp2
  go_ret
  exact ⟨rfl, rfl⟩
set_option maxHeartbeats 1000000 in
theorem is_fail_same (p : Nat) (b : Addr) (w : World) (h1 : w.cell? ⟨p, 4, none⟩ = some (whyV b)) :
    Calls Tryd.prog 10 #[failV p, whyV b] w fun e w' => e = .returned (.bool true) ∧ w' = w := by
  unfold whyV at *
  unfold failV
  obtain ⟨i, hi, hcmp⟩ := Option.map_eq_some_iff.1 Tryd.isComp
  obtain ⟨j, hj, hjs⟩ := Option.map_eq_some_iff.1 Tryd.isSize
  have h8 := @run_callFunc_extern Tryd.prog 26 _ Extern.ReflectliteType.typeOf Tryd.func26 (by kernel_rfl) (by kernel_rfl) (by kernel_rfl) (by kernel_rfl)
  have h32 := @run_callFunc_extern Tryd.prog 101 _ Tryd.cmpX Tryd.func101 (by kernel_rfl) (by kernel_rfl) (by kernel_rfl) (by kernel_rfl)
  have tT := Tryd.isTypeOf
  have cT := Tryd.isComparable
  have mR := Tryd.isMethodComparable
  have nE := Tryd.noIsE
  have uE := Tryd.noUnwrapE
  have vE := Tryd.noUnwrapsE
  have nW := Tryd.noIsW
  have uW := Tryd.hasUnwrapW
  have mU := Tryd.methodUnwrap
  have heq := run_eql_iface_ptr_same (P := Tryd.prog) w b Tryd.underlying26 Tryd.underlying128 hi hcmp hj
  have hty := run_eql_iface_types (P := Tryd.prog) 79 128 (.pointer (some ⟨p, 0, none⟩)) (.pointer (some b)) Tryd.underlying26 (by decide) w
  go_enter Tryd.func10, Tryd.ntmps10
  go_wp2
  refine wp_loop_rounds 2 ?_
  rw [rounds_succ]
  go_wp2
  rw [rounds_succ]
  go_wp2
  go_ret
  exact ⟨rfl, rfl⟩
set_option maxHeartbeats 1000000 in
theorem is_fail_other (p : Nat) (b a : Addr) (ca cb : Array Value) (ta tb : TypeId) (w : World) (h1 : w.cell? ⟨p, 4, none⟩ = some (whyV a)) (hne : a ≠ b) (ha : w.heap[a.block]? = some (.cells ca ta (0, 0))) (hb : w.heap[b.block]? = some (.cells cb tb (0, 0))) :
    Calls Tryd.prog 10 #[failV p, whyV b] w fun e w' => e = .returned (.bool false) ∧ w' = w := by
  unfold whyV at *
  unfold failV
  obtain ⟨i, hi, hcmp⟩ := Option.map_eq_some_iff.1 Tryd.isComp
  obtain ⟨j, hj, hjs⟩ := Option.map_eq_some_iff.1 Tryd.isSize
  have h8 := @run_callFunc_extern Tryd.prog 26 _ Extern.ReflectliteType.typeOf Tryd.func26 (by kernel_rfl) (by kernel_rfl) (by kernel_rfl) (by kernel_rfl)
  have h32 := @run_callFunc_extern Tryd.prog 101 _ Tryd.cmpX Tryd.func101 (by kernel_rfl) (by kernel_rfl) (by kernel_rfl) (by kernel_rfl)
  have tT := Tryd.isTypeOf
  have cT := Tryd.isComparable
  have mR := Tryd.isMethodComparable
  have nE := Tryd.noIsE
  have uE := Tryd.noUnwrapE
  have vE := Tryd.noUnwrapsE
  have nW := Tryd.noIsW
  have uW := Tryd.hasUnwrapW
  have mU := Tryd.methodUnwrap
  have heq := run_eql_iface_ptr_other (P := Tryd.prog) w Tryd.underlying26 Tryd.underlying128 hi hcmp hj (by rw [hjs]; decide) hne ha hb
  have hty := run_eql_iface_types (P := Tryd.prog) 79 128 (.pointer (some ⟨p, 0, none⟩)) (.pointer (some b)) Tryd.underlying26 (by decide) w
  go_enter Tryd.func10, Tryd.ntmps10
  go_wp2
  refine wp_loop_rounds 2 ?_
  rw [rounds_succ]
  go_wp2
  rw [rounds_succ]
  go_wp2
  go_ret
  exact ⟨rfl, rfl⟩
end Go.Proofs.YtbnicjpkfldcdaaDoor

/- disk: files that come, go and change. -/
namespace Go.Proofs.YtbnicjpkfldcdaaDoor
open Go.RowKit

theorem ownsRow_base {w : World} {B B' : Nat} {e : TypeId} {size : Nat} {v : Value} {n : Nat} {xs : List Value} (h : w.ownsRow B' e size v n xs) (hB : B ≤ B') : w.ownsRow B e size v n xs := by
  refine ⟨h.1, ?_⟩
  rcases h.2 with hn | ⟨g, cap, cur, rfl, hb, rest⟩
  · exact .inl hn
  · exact .inr ⟨g, cap, cur, rfl, Nat.le_trans hB hb, rest⟩
def restOf (d m : Nat) (sv : Value) (F1 : List FE) (k : Nat) (F2 : List FE) : List Nat := d :: m :: ((svBlk sv).toList ++ (F1.flatMap FE.blks ++ k :: F2.flatMap FE.blks))
theorem fp_perm (d m : Nat) (sv : Value) (F1 : List FE) (f : FE) (F2 : List FE) : (fpOf d m sv (F1 ++ f :: F2)).Perm (f.row.ownBlock.toList ++ restOf d m sv F1 f.blk F2) := by
  unfold fpOf restOf
  have e : (F1 ++ f :: F2).flatMap FE.blks = F1.flatMap FE.blks ++ (f.blk :: (f.row.ownBlock.toList ++ F2.flatMap FE.blks)) := by simp [FE.blks, List.flatMap_append]
  rw [e]
  generalize f.row.ownBlock.toList = o
  generalize (svBlk sv).toList = s
  generalize F1.flatMap FE.blks = A
  generalize F2.flatMap FE.blks = C
  have h : (d :: m :: (s ++ (A ++ f.blk :: (o ++ C)))) = (d :: m :: (s ++ (A ++ [f.blk]))) ++ (o ++ C) := by simp
  have h2 : (o ++ (d :: m :: (s ++ (A ++ f.blk :: C)))) = o ++ ((d :: m :: (s ++ (A ++ [f.blk]))) ++ C) := by simp
  rw [h, h2]
  generalize (d :: m :: (s ++ (A ++ [f.blk]))) = X
  rw [← List.append_assoc, ← List.append_assoc]
  exact List.Perm.append_right C List.perm_append_comm
theorem mem_fp_iff (d m : Nat) (sv : Value) (F1 : List FE) (f : FE) (F2 : List FE) (b : Nat) : b ∈ fpOf d m sv (F1 ++ f :: F2) ↔ f.row.ownBlock = some b ∨ b ∈ restOf d m sv F1 f.blk F2 := by
  rw [(fp_perm d m sv F1 f F2).mem_iff, List.mem_append, Option.mem_toList]
theorem usedF_mid (F1 : List FE) (f : FE) (F2 : List FE) : usedF (F1 ++ f :: F2) = usedF (F1 ++ F2) + f.data.length := by
  simp only [usedF, List.map_append, List.map_cons, List.sum_append, List.sum_cons]; omega
theorem usedF_snoc (F : List FE) (f : FE) : usedF (F ++ [f]) = usedF F + f.data.length := by
  simp [usedF]
/-- One file has changed. -/
theorem DiskAt.refile {B d m clk : Nat} {sv : Value} {S : DS} {F1 F2 : List FE} {f : FE} {w w' : World} (h : DiskAt B d m clk sv S (F1 ++ f :: F2) w) (f' : FE) (hn : f'.name = f.name) (hb : f'.blk = f.blk) (hbo : f'.born = f.born)
    (hobj : w'.heap[f.blk]? = some f'.obj) (hrow : w'.ownsRow B 5 1 f'.row f'.data.length (bc f'.data)) (hdur : f'.dur ≤ f'.data.length)
    (hown : ∀ b, f'.row.ownBlock = some b → f.row.ownBlock = some b ∨ w.heap.size ≤ b)
    (hself : w'.heap[d]? = some (selfObj S (usedF (F1 ++ f' :: F2)) sv m)) (hz : w.heap.size ≤ w'.heap.size)
    (hs : ∀ b, b ∈ fpOf d m sv (F1 ++ f :: F2) → b ≠ d → b ≠ f.blk → f.row.ownBlock ≠ some b → w'.heap[b]? = w.heap[b]?)
    (hfit : usedF (F1 ++ f' :: F2) ≤ S.quota) : DiskAt B d m clk sv S (F1 ++ f' :: F2) w' := by
  have hnd : (f.row.ownBlock.toList ++ restOf d m sv F1 f.blk F2).Nodup := (fp_perm d m sv F1 f F2).nodup_iff.1 h.apart
  have hap := h.apart
  have hmem : ∀ b, b ∈ fpOf d m sv (F1 ++ f' :: F2) → b ∈ fpOf d m sv (F1 ++ f :: F2) ∨ w.heap.size ≤ b := by
    intro b hb'
    rw [mem_fp_iff, hb] at hb'
    rw [mem_fp_iff]
    rcases hb' with e | e
    · rcases hown b e with e' | e'
      · exact .inl (.inl e')
      · exact .inr e'
    · exact .inl (.inr e)
  -- blocks of other things are other blocks
  have hdm : m ≠ d := by
    simp only [fpOf, List.nodup_cons, List.mem_cons] at hap
    exact fun e => hap.1 (.inl e.symm)
  have hblk : ∀ b, b ∈ restOf d m sv F1 f.blk F2 → f.row.ownBlock ≠ some b := by
    intro b hb' e
    rw [List.nodup_append] at hnd
    exact hnd.2.2 b (by simp [e]) b hb' rfl
  have hrest : (restOf d m sv F1 f.blk F2).Nodup := (List.nodup_append.1 hnd).2.1
  have hother : ∀ g, g ∈ F1 ∨ g ∈ F2 → ∀ b, b ∈ g.blks → b ≠ d ∧ b ≠ f.blk ∧ f.row.ownBlock ≠ some b ∧ b ∈ fpOf d m sv (F1 ++ f :: F2) := by
    intro g hg b hb'
    have hin : b ∈ F1.flatMap FE.blks ∨ b ∈ F2.flatMap FE.blks := by
      rcases hg with hg | hg
      · exact .inl (List.mem_flatMap.2 ⟨g, hg, hb'⟩)
      · exact .inr (List.mem_flatMap.2 ⟨g, hg, hb'⟩)
    have hr : b ∈ restOf d m sv F1 f.blk F2 := by
      unfold restOf
      rcases hin with e | e <;> simp [e]
    refine ⟨?_, ?_, hblk b hr, (mem_fp_iff _ _ _ _ _ _ _).2 (.inr hr)⟩
    · rintro rfl
      unfold restOf at hrest
      rw [List.nodup_cons] at hrest
      apply hrest.1
      rcases hin with e | e <;> simp [e]
    · rintro rfl
      unfold restOf at hrest
      have h3 : (F1.flatMap FE.blks ++ f.blk :: F2.flatMap FE.blks).Nodup := (List.nodup_append.1 (List.nodup_cons.1 (List.nodup_cons.1 hrest).2).2).2.1
      rw [List.nodup_append] at h3
      rcases hin with e | e
      · exact h3.2.2 _ e _ (by simp) rfl
      · exact (List.nodup_cons.1 h3.2.1).1 e
  have hm : m ≠ f.blk ∧ f.row.ownBlock ≠ some m := by
    have hmr : m ∈ restOf d m sv F1 f.blk F2 := by simp [restOf]
    refine ⟨?_, hblk m hmr⟩
    intro e
    unfold restOf at hrest
    have := (List.nodup_cons.1 (List.nodup_cons.1 hrest).2).1
    apply this
    rw [← e]; simp
  refine ⟨hself, ?_, ?_, ?_, ?_, ?_, ?_, ?_, ?_, Nat.le_trans h.size hz, hfit, h.quota, h.steps⟩
  · rw [hs m mem_fp_map hdm hm.1 hm.2, h.map]
    have : (F1 ++ f' :: F2).map FE.entry = (F1 ++ f :: F2).map FE.entry := by simp [FE.entry, hn, hb, hbo]
    rw [this]
  · intro g hg
    rcases List.mem_append.1 hg with hg | hg
    · exact h.born g (by simp [hg])
    · rcases List.mem_cons.1 hg with rfl | hg
      · rw [hbo]; exact h.born f (by simp)
      · exact h.born g (by simp [hg])
  · have := h.borns
    simpa [hbo] using this
  · have := h.names
    simpa [hn] using this
  · intro g hg
    rcases List.mem_append.1 hg with hg | hg
    · exact (h.files g (by simp [hg])).same (fun b hb' => by obtain ⟨x, y, z, u⟩ := hother g (.inl hg) b hb'; exact hs b u x y z)
    · rcases List.mem_cons.1 hg with rfl | hg
      · exact ⟨by rw [hb]; exact hobj, hrow, hdur⟩
      · exact (h.files g (by simp [hg])).same (fun b hb' => by obtain ⟨x, y, z, u⟩ := hother g (.inr hg) b hb'; exact hs b u x y z)
  · refine h.stops.same (fun b hb' => ?_)
    have hr : b ∈ restOf d m sv F1 f.blk F2 := by simp [restOf, hb']
    refine hs b (mem_fp_sv hb') ?_ ?_ (hblk b hr)
    · rintro rfl
      unfold restOf at hrest
      exact (List.nodup_cons.1 hrest).1 (by simp [hb'])
    · rintro rfl
      unfold restOf at hrest
      have := (List.nodup_append.1 (List.nodup_cons.1 (List.nodup_cons.1 hrest).2).2).2.2
      exact this f.blk (by simp [hb']) f.blk (by simp) rfl
  · rw [(fp_perm d m sv F1 f' F2).nodup_iff, hb]
    rw [List.nodup_append]
    refine ⟨?_, hrest, ?_⟩
    · cases f'.row.ownBlock <;> simp
    · intro a ha b hb'
      rw [Option.mem_toList] at ha
      rcases hown a ha with e | e
      · rintro rfl; exact hblk a hb' e
      · have := h.lt ((mem_fp_iff d m sv F1 f F2 b).2 (.inr hb'))
        omega
  · intro b hb'
    rcases hmem b hb' with e | e
    · exact h.base b e
    · exact Nat.le_trans h.size e
theorem fp_same_blk {d m : Nat} {sv : Value} {F1 F2 : List FE} {f f' : FE} {N : Nat} (hb : f'.blk = f.blk) (hown : ∀ b, f'.row.ownBlock = some b → f.row.ownBlock = some b ∨ N ≤ b) (b : Nat) (h : b ∈ fpOf d m sv (F1 ++ f' :: F2)) : b ∈ fpOf d m sv (F1 ++ f :: F2) ∨ N ≤ b := by
  rw [mem_fp_iff, hb] at h
  rw [mem_fp_iff]
  rcases h with e | e
  · rcases hown b e with e' | e'
    · exact .inl (.inl e')
    · exact .inr e'
  · exact .inl (.inr e)
theorem fp_drop {d m : Nat} {sv : Value} {F1 F2 : List FE} {f : FE} : (fpOf d m sv (F1 ++ F2)).Sublist (fpOf d m sv (F1 ++ f :: F2)) := by
  unfold fpOf
  refine ((List.Sublist.append (List.Sublist.refl _) ?_).cons_cons _).cons_cons _
  rw [List.flatMap_append, List.flatMap_append, List.flatMap_cons]
  exact List.Sublist.append (List.Sublist.refl _) (List.sublist_append_right _ _)
theorem map_erase (F1 F2 : List FE) (f : FE) : ((F1 ++ f :: F2).map FE.entry).toArray.eraseIdxIfInBounds F1.length = ((F1 ++ F2).map FE.entry).toArray := by
  simp [Array.eraseIdxIfInBounds, List.eraseIdx_append_of_length_le]
/-- A file is gone. -/
theorem DiskAt.gone {B d m clk : Nat} {sv : Value} {S : DS} {F1 F2 : List FE} {f : FE} {w w' : World} (h : DiskAt B d m clk sv S (F1 ++ f :: F2) w)
    (hself : w'.heap[d]? = some (selfObj S (usedF (F1 ++ F2)) sv m)) (hmap : w'.heap[m]? = some (.map ((F1 ++ F2).map FE.entry).toArray clk)) (hz : w.heap.size ≤ w'.heap.size)
    (hs : ∀ b, b ∈ fpOf d m sv (F1 ++ f :: F2) → b ≠ d → b ≠ m → w'.heap[b]? = w.heap[b]?) : DiskAt B d m clk sv S (F1 ++ F2) w' := by
  have hap : (fpOf d m sv (F1 ++ F2)).Nodup := fp_drop.nodup h.apart
  have hsub : ∀ g, g ∈ F1 ++ F2 → g ∈ F1 ++ f :: F2 := by
    intro g hg
    rcases List.mem_append.1 hg with hg | hg <;> simp [hg]
  have hne : ∀ b, b ∈ (svBlk sv).toList ++ (F1 ++ F2).flatMap FE.blks → b ≠ d ∧ b ≠ m := by
    intro b hb
    unfold fpOf at hap
    rw [List.nodup_cons, List.nodup_cons] at hap
    exact ⟨fun e => hap.1 (by rw [← e]; simp only [List.mem_cons]; exact .inr hb), fun e => hap.2.1 (by rw [← e]; exact hb)⟩
  refine ⟨hself, hmap, fun g hg => h.born g (hsub g hg), ?_, ?_, ?_, ?_, hap, fun b hb => h.base b (fp_drop.subset hb), Nat.le_trans h.size hz, ?_, h.quota, h.steps⟩
  · refine List.Sublist.nodup ?_ h.borns
    rw [List.map_append, List.map_append, List.map_cons]
    exact List.Sublist.append (List.Sublist.refl _) (List.sublist_cons_self _ _)
  · refine List.Sublist.nodup ?_ h.names
    rw [List.map_append, List.map_append, List.map_cons]
    exact List.Sublist.append (List.Sublist.refl _) (List.sublist_cons_self _ _)
  · intro g hg
    refine (h.files g (hsub g hg)).same (fun b hb => ?_)
    obtain ⟨x, y⟩ := hne b (List.mem_append.2 (.inr (List.mem_flatMap.2 ⟨g, hg, hb⟩)))
    exact hs b (mem_fp_file (hsub g hg) hb) x y
  · refine h.stops.same (fun b hb => ?_)
    obtain ⟨x, y⟩ := hne b (by simp [hb])
    exact hs b (mem_fp_sv hb) x y
  · have := h.fits
    rw [usedF_mid] at this
    omega
theorem map_push (F : List FE) (f : FE) : ((F.map FE.entry).toArray).push f.entry = ((F ++ [f]).map FE.entry).toArray := by simp
/-- A file has come, without a byte, in a block of its own. -/
theorem DiskAt.come {B d m clk : Nat} {sv : Value} {S : DS} {F : List FE} {w w' : World} (h : DiskAt B d m clk sv S F w) (f : FE) (hnew : ∀ g, g ∈ F → g.name ≠ f.name) (hborn : f.born = clk) (hdata : f.data = []) (hdur : f.dur = 0) (hrow : f.row = .slice none 0 0)
    (hblk : w'.heap[f.blk]? = some f.obj) (hout : f.blk ∉ fpOf d m sv F) (hB : B ≤ f.blk) (hmap : w'.heap[m]? = some (.map ((F ++ [f]).map FE.entry).toArray (clk + 1))) (hz : w.heap.size ≤ w'.heap.size)
    (hs : ∀ b, b ∈ fpOf d m sv F → b ≠ m → w'.heap[b]? = w.heap[b]?) : DiskAt B d m (clk + 1) sv S (F ++ [f]) w' := by
  have hfp : fpOf d m sv (F ++ [f]) = fpOf d m sv F ++ [f.blk] := by simp [fpOf, FE.blks, hrow, Value.ownBlock]
  have hap := h.apart
  have hm : ∀ b, b ∈ (svBlk sv).toList ++ F.flatMap FE.blks → b ≠ m := by
    intro b hb
    unfold fpOf at hap
    rw [List.nodup_cons, List.nodup_cons] at hap
    exact fun e => hap.2.1 (by rw [← e]; exact hb)
  have hdm : d ≠ m := by
    unfold fpOf at hap
    rw [List.nodup_cons] at hap
    exact fun e => hap.1 (by rw [e]; simp)
  have hu : usedF (F ++ [f]) = usedF F := by rw [usedF_snoc, hdata]; rfl
  refine ⟨?_, hmap, ?_, ?_, ?_, ?_, ?_, ?_, ?_, Nat.le_trans h.size hz, by rw [hu]; exact h.fits, h.quota, h.steps⟩
  · rw [hs d mem_fp_self hdm, hu]; exact h.self
  · intro g hg
    rcases List.mem_append.1 hg with hg | hg
    · exact Nat.lt_succ_of_lt (h.born g hg)
    · simp at hg; subst hg; omega
  · rw [List.map_append, List.nodup_append]
    refine ⟨h.borns, by simp, ?_⟩
    intro a ha b hb
    obtain ⟨g, hg, rfl⟩ := List.mem_map.1 ha
    simp at hb; subst hb
    have := h.born g hg
    omega
  · rw [List.map_append, List.nodup_append]
    refine ⟨h.names, by simp, ?_⟩
    intro a ha b hb
    obtain ⟨g, hg, rfl⟩ := List.mem_map.1 ha
    simp at hb; subst hb
    exact hnew g hg
  · intro g hg
    rcases List.mem_append.1 hg with hg | hg
    · exact (h.files g hg).same (fun b hb => hs b (mem_fp_file hg hb) (hm b (List.mem_append.2 (.inr (List.mem_flatMap.2 ⟨g, hg, hb⟩)))))
    · simp at hg; subst hg
      refine ⟨hblk, ?_, by omega⟩
      rw [hrow, hdata]
      exact World.ownsRow_nil _ _ _ _
  · exact h.stops.same (fun b hb => hs b (mem_fp_sv hb) (hm b (by simp [hb])))
  · rw [hfp, List.nodup_append]
    refine ⟨h.apart, by simp, ?_⟩
    intro a ha b hb
    simp at hb; subst hb
    rintro rfl
    exact hout ha
  · intro b hb
    rw [hfp] at hb
    rcases List.mem_append.1 hb with hb | hb
    · exact h.base b hb
    · simp at hb; subst hb; exact hB
end Go.Proofs.YtbnicjpkfldcdaaDoor
