/- DiskKeeps: what its walk calls besides: Plan(nil), Plan, Start, Down, Peek, errors.Is on a disk with its log; what stays true from call to call. -/
import Derived.Test.YtbnicjpkfldcdaaDoorK9o
import Derived.Test.YtbnicjpkfldcdaaDoorD9xf
import Derived.Test.YtbnicjpkfldcdaaDoorD9zd
import Derived.Test.YtbnicjpkfldcdaaDoorD9xi
namespace Go.Proofs.YtbnicjpkfldcdaaDoor
open Go.RowKit Go.Lib

theorem Dk.durK {A : Whys} {w0 w : World} {d : Nat} {S : DS} {P : List PF} {K : List (Nat × Obj)} (h : Dk A w0 d S P K w) : ∀ p, p ∈ P → p.dur ≤ p.data.length := by
  obtain ⟨m, sv, clk, F, hD, rfl, hb, he, hK⟩ := h
  intro p hp
  obtain ⟨f, hf, rfl⟩ := List.mem_map.1 hp
  exact (hD.files f hf).dur
theorem used_mem {P : List PF} {p : PF} (h : p ∈ P) : p.data.length ≤ usedP P := by
  unfold usedP
  induction P with
  | nil => cases h
  | cons x l ih =>
    rw [List.map_cons, List.sum_cons]
    rcases List.mem_cons.1 h with rfl | h
    · omega
    · have := ih h; omega
theorem Plan_nil {B d m clk : Nat} {sv : Value} {S : DS} {F : List FE} {w : World} (h : DiskAt B d m clk sv S F w) (hq : 1 ≤ S.quota) :
    Calls Tryd.prog 6 #[.pointer (some ⟨d, 0, none⟩), .slice none 0 0] w fun e w' => e = .returned (.tuple #[]) ∧ ∃ sv', DiskAt B d m clk sv' { S with stops := [] } F w' ∧ Stays (fpOf d m sv F) w w' ∧ ∀ b, b ∈ fpOf d m sv' F → b ∈ fpOf d m sv F ∨ w.heap.size ≤ b := by
  have HM := Lib.hid (isMade_any h hq)
  have HP0 := Lib.hid (plan_nil h)
  have c4 := h.cells.c4
  have f4 := h.cells.f4
  clear h hq
  go_enter Tryd.func6, Tryd.ntmps6
  go_wp2_with (go_at_call 21; refine HM.out.mono ?_; rintro e w2 ⟨rfl, hw2⟩; subst w2)
  go_loopw [14] (fun i wr => ∃ (X : World), X = wr ∧ i = .int .i64 0 ∧ Planning B d m clk sv S F w (.slice none 0 0) [] X) (fun _ _ => 0)
  case atStart => exact ⟨_, rfl, rfl, HP0.out⟩
  case round =>
    obtain ⟨X, hX, rfl, hP⟩ := hrel
    subst hX
    have HE := Lib.hid (And.intro hP.disk (And.intro hP.stays hP.fp))
    clear hP
    go_wp2_with fail
    first | refine bodyPost_end (results_none rfl _ _ _) rfl ?_ | refine bodyPost_ret (results_none rfl _ _ _) rfl ?_
    exact ⟨rfl, _, HE.out⟩
theorem PlanN {A : Whys} {w0 w : World} {d : Nat} {S : DS} {P : List PF} {K : List (Nat × Obj)} (h : Dk A w0 d S P K w) (hq : 1 ≤ S.quota) :
    Calls Tryd.prog 6 #[.pointer (some ⟨d, 0, none⟩), .slice none 0 0] w fun e w' => e = .returned (.tuple #[]) ∧ Dk A w0 d { S with stops := [] } P K w' := by
  obtain ⟨m, sv, clk, F, hD, rfl, hb0, he, hK⟩ := h
  refine (Plan_nil hD hq).mono ?_
  rintro e w' ⟨rfl, sv', hD', hS, hM⟩
  exact ⟨rfl, m, sv', clk, F, hD', rfl, hb0.trans (hS.below hD.base hD.size), he.stays hS hD.base, keep_on hK hS hM⟩
theorem Peek_hitK {B d m clk : Nat} {sv : Value} {S : DS} {F1 F2 : List FE} {f : FE} {w : World} (h : DiskAt B d m clk sv S (F1 ++ f :: F2) w) (n : ByteArray) (hn : f.name = n) :
    Calls Tryd.prog 15 #[.pointer (some ⟨d, 0, none⟩), .string n] w fun e w' => e = .returned (.tuple #[.string (Proofs.YtbnicjpkfldcdaaDoor.S f.data), .bool true]) ∧ w' = w := by
  have HF := Lib.hid (find_hit h n hn (by rw [← hn]; exact (names_tail h.names).1))
  obtain ⟨a, c, hsh, ⟨b0, b1, bz⟩⟩ := h.fileC (f := f) (by simp)
  have hcv := back_own (h.files f (by simp)).row
  rw [hsh] at hcv
  clear h hn hsh
  go_enter Tryd.func15, Tryd.ntmps15
  go_wp2_with (go_at_call 32; refine HF.out.mono ?_; rintro e w2 ⟨rfl, hw2⟩; subst w2)
  go_ret2
  exact ⟨rfl, rfl⟩
theorem PeekK {A : Whys} {w0 w : World} {d : Nat} {S : DS} {P : List PF} {K : List (Nat × Obj)} (h : Dk A w0 d S P K w) {p : PF} (hp : p ∈ P) :
    Calls Tryd.prog 15 #[.pointer (some ⟨d, 0, none⟩), .string p.name] w fun e w' => e = .returned (.tuple #[.string (Proofs.YtbnicjpkfldcdaaDoor.S p.data), .bool true]) ∧ w' = w := by
  obtain ⟨m, sv, clk, F, hD, rfl, hb, he, hK⟩ := h
  obtain ⟨f, hf, rfl⟩ := List.mem_map.1 hp
  obtain ⟨F1, F2, rfl⟩ := List.append_of_mem hf
  exact Peek_hitK hD f.name rfl
theorem KD.fok {A : Whys} {w0 w : World} {d bp : Nat} {T : DS} {P : List PF} {G : List LE} {K : List (Nat × Obj)} (h : KD A w0 d bp T P G K w) : (∀ p, p ∈ P → p.dur ≤ p.data.length) ∧ usedP P ≤ T.quota ∧ T.steps ≤ 1000000000 := by
  obtain ⟨KG, BG, hD, _⟩ := h.disk
  refine ⟨hD.durK, hD.fits, ?_⟩
  obtain ⟨m, sv, clk, F, hD, rfl, hb, he, hK⟩ := hD
  exact hD.steps
theorem KD.env {A : Whys} {w0 w : World} {d bp : Nat} {T : DS} {P : List PF} {G : List LE} {K : List (Nat × Obj)} (h : KD A w0 d bp T P G K w) : Env A w0.heap.size w := by
  obtain ⟨m, sv, clk, F, vn, va, vs, h1, rfl, hb, he, h2, hd, hK⟩ := h
  exact he
theorem KD.down {A : Whys} {w0 w : World} {d bp : Nat} {T : DS} {P : List PF} {G : List LE} {K : List (Nat × Obj)} (h : KD A w0 d bp T P G K w) {b : Bool} (hb : b = !T.runs) :
    Calls Tryd.prog 9 #[.pointer (some ⟨d, 0, none⟩)] w fun e w' => e = .returned (.bool b) ∧ w' = w := by
  subst hb
  obtain ⟨KG, BG, hD, _⟩ := h.disk
  exact DownD hD
theorem KD.start {A : Whys} {w0 w : World} {d bp : Nat} {T : DS} {P : List PF} {G : List LE} {K : List (Nat × Obj)} (h : KD A w0 d bp T P G K w) (hq : 1 ≤ T.quota) :
    Calls Tryd.prog 11 #[.pointer (some ⟨d, 0, none⟩)] w fun e w' => e = .returned (.tuple #[]) ∧ KD A w0 d bp T.on P G K w' := by
  obtain ⟨KG, BG, hD, _, h1, _, _, _, _, h5⟩ := h.disk
  refine (StartD hD hq).mono ?_
  rintro e w' ⟨rfl, hD'⟩
  exact ⟨rfl, h5 w' _ _ _ hD' (fun x hx => List.mem_append_left _ hx) K (fun x hx => ⟨List.mem_append_right _ hx, h1 x hx⟩)⟩
theorem KD.planN {A : Whys} {w0 w : World} {d bp : Nat} {T : DS} {P : List PF} {G : List LE} {K : List (Nat × Obj)} (h : KD A w0 d bp T P G K w) (hq : 1 ≤ T.quota) :
    Calls Tryd.prog 6 #[.pointer (some ⟨d, 0, none⟩), .slice none 0 0] w fun e w' => e = .returned (.tuple #[]) ∧ KD A w0 d bp { T with stops := [] } P G K w' := by
  obtain ⟨KG, BG, hD, _, h1, _, _, _, _, h5⟩ := h.disk
  refine (PlanN hD hq).mono ?_
  rintro e w' ⟨rfl, hD'⟩
  exact ⟨rfl, h5 w' _ _ _ hD' (fun x hx => List.mem_append_left _ hx) K (fun x hx => ⟨List.mem_append_right _ hx, h1 x hx⟩)⟩
theorem KD.planG {A : Whys} {w0 w W : World} {d bp : Nat} {T : DS} {P : List PF} {G : List LE} {K : List (Nat × Obj)} (h : KD A w0 d bp T P G K w) (hq : 1 ≤ T.quota) (hb : Below w.heap.size w W) (l : List (Int × Int × Int)) (g n c : Nat) (hn : l.length = n) (hg : w.heap.size ≤ g) (hl : n ≤ 5864062014634) (hin : StopsIn W g 0 n l) :
    Calls Tryd.prog 6 #[.pointer (some ⟨d, 0, none⟩), .slice (some ⟨g, 0, none⟩) n c] W fun e w' => e = .returned (.tuple #[]) ∧ KD A w0 d bp { T with stops := planP l } P G K w' := by
  subst hn
  obtain ⟨KG, BG, hD, _, h1, _, _, _, _, h5⟩ := h.disk
  refine (PlanG hD hq hb l g c hg hl hin).mono ?_
  rintro e w' ⟨rfl, hD'⟩
  exact ⟨rfl, h5 w' _ _ _ hD' (fun x hx => List.mem_append_left _ hx) K (fun x hx => ⟨List.mem_append_right _ hx, h1 x hx⟩)⟩
theorem KD.peek {A : Whys} {w0 w : World} {d bp : Nat} {T : DS} {P : List PF} {G : List LE} {K : List (Nat × Obj)} (h : KD A w0 d bp T P G K w) {p : PF} (hp : p ∈ P) :
    Calls Tryd.prog 15 #[.pointer (some ⟨d, 0, none⟩), .string p.name] w fun e w' => e = .returned (.tuple #[.string (Proofs.YtbnicjpkfldcdaaDoor.S p.data), .bool true]) ∧ w' = w := by
  obtain ⟨KG, BG, hD, _⟩ := h.disk
  exact PeekK hD hp
/-- errors.Is of an error that is kept. -/
theorem KD.is {A : Whys} {w0 w : World} {d bp : Nat} {T : DS} {P : List PF} {G : List LE} {K : List (Nat × Obj)} (h : KD A w0 d bp T P G K w) {p : Nat} {op name : ByteArray} {step code : Int} (hp : (p, failObj A op name step code) ∈ K) (hv : Bool) (hb : hv = decide (code = 93)) :
    Calls Tryd.prog 10 #[failV p, whyV (A.at 93)] w fun e w' => e = .returned (.bool hv) ∧ w' = w := by
  subst hb
  obtain ⟨KG, BG, hD, _⟩ := h.disk
  have h1 := IsD hD (List.mem_append_right _ hp) 93
  have e : decide (A.at code = A.at 93) = decide (code = 93) := by
    by_cases hcc : code = 93
    · subst hcc; simp
    · rw [decide_eq_false (at_apart hD.env hcc), decide_eq_false hcc]
  rw [e] at h1
  exact h1
/-- Files stay sound. -/
def FokP (P : List PF) : Prop := ∀ p, p ∈ P → p.dur ≤ p.data.length
theorem fok_mod {n : ByteArray} {g : PF → PF} (hg : ∀ p : PF, p.dur ≤ p.data.length → (g p).dur ≤ (g p).data.length) {P : List PF} (h : FokP P) : FokP (modP n g P) := by
  intro p hp
  obtain ⟨x, hx, rfl⟩ := List.mem_map.1 hp
  split
  · exact hg x (h x hx)
  · exact h x hx
theorem fok_grow {n : ByteArray} {x : List UInt8} {P : List PF} (h : FokP P) : FokP (growP n x P) := by
  unfold growP
  split
  · exact fok_mod (fun p hp => by simp only [List.length_append]; omega) h
  · intro p hp
    rcases List.mem_append.1 hp with hp | hp
    · exact h p hp
    · rw [List.mem_singleton.1 hp]
      exact Nat.zero_le _
theorem fok_drop {n : ByteArray} {P : List PF} (h : FokP P) : FokP (dropP n P) := fun p hp => h p (List.mem_filter.1 hp).1
theorem fok_move {a b : ByteArray} {P : List PF} (h : FokP P) : FokP (moveP a b P) := by
  unfold moveP
  split
  · exact h
  · split
    · exact h
    · rename_i x hx
      intro p hp
      rcases List.mem_append.1 hp with hp | hp
      · exact fok_drop (fok_drop h) p hp
      · rw [List.mem_singleton.1 hp]
        exact h x (List.mem_of_find?_eq_some hx)
theorem fok_done {P : List PF} (q : ActR) (h : FokP P) : FokP (doneK P q) := by
  unfold doneK
  split
  · exact fok_grow h
  split
  · exact fok_mod (fun p _ => Nat.le_refl _) h
  split
  · exact fok_move h
  split
  · exact fok_drop h
  split
  · exact fok_mod (fun p hp => by simp only [cutF, List.length_take]; omega) h
  · exact h
theorem fok_part {P : List PF} (q : ActR) (y : Int) (h : FokP P) : FokP (partK P q y) := by
  unfold partK
  split
  · exact fok_grow h
  split
  · exact fok_done q h
  · exact h
theorem len_grow (n : ByteArray) (x : List UInt8) (P : List PF) : (growP n x P).length ≤ P.length + 1 := by
  unfold growP
  split
  · unfold modP; rw [List.length_map]; omega
  · simp
theorem len_move (a b : ByteArray) (P : List PF) : (moveP a b P).length ≤ P.length + 1 := by
  unfold moveP
  split
  · omega
  · split
    · omega
    · have h1 := List.length_filter_le (fun p : PF => !decide (p.name = a)) (dropP b P)
      have h2 := List.length_filter_le (fun p : PF => !decide (p.name = b)) P
      have h3 : (dropP a (dropP b P)).length ≤ P.length := Nat.le_trans h1 h2
      simp only [List.length_append, List.length_singleton]
      omega
theorem len_done (P : List PF) (q : ActR) : (doneK P q).length ≤ P.length + 1 := by
  unfold doneK
  split
  · exact len_grow _ _ _
  split
  · unfold modP; rw [List.length_map]; omega
  split
  · exact len_move _ _ _
  split
  · exact Nat.le_trans (List.length_filter_le _ _) (by omega)
  split
  · unfold modP; rw [List.length_map]; omega
  · omega
theorem len_part (P : List PF) (q : ActR) (y : Int) : (partK P q y).length ≤ P.length + 1 := by
  unfold partK
  split
  · exact len_grow _ _ _
  split
  · exact len_done _ _
  · omega
/-- What stays true from call to call. -/
structure KI (A : Whys) (w : World) (d bp k : Nat) (T : DS) (P : List PF) (G : List LE) (K : List (Nat × Obj)) (X : World) : Prop where
  kd : KD A w d bp T P G K X
  quota : T.quota = 4000
  ok : T.ok
  runs : T.runs = true
  steps : T.steps ≤ 200 * k
  len : P.length ≤ k
  log : LogOf P G
  nm : NmK P
theorem KI.up {A : Whys} {w X Y : World} {d bp k : Nat} {T : DS} {P : List PF} {G : List LE} {K : List (Nat × Obj)} (h : KI A w d bp k T P G K X) (hb : Below X.heap.size X Y) : KI A w d bp k T P G K Y := ⟨h.kd.up hb, h.quota, h.ok, h.runs, h.steps, h.len, h.log, h.nm⟩
theorem KI.small {A : Whys} {w X : World} {d bp k : Nat} {T : DS} {P : List PF} {G : List LE} {K : List (Nat × Obj)} (h : KI A w d bp k T P G K X) : (∀ p, p ∈ P → p.data.length ≤ 4000) ∧ G.length = P.length ∧ ∀ e, e ∈ G → e.all.size ≤ 4000 := by
  have h1 : ∀ p, p ∈ P → p.data.length ≤ 4000 := fun p hp => by
    have := used_mem hp
    have := h.kd.fok.2.1
    rw [h.quota] at this
    omega
  refine ⟨h1, by rw [h.log.perm.length_eq, List.length_map], fun e he => ?_⟩
  obtain ⟨p, hp, rfl⟩ := h.log.mem.1 he
  have : (toLE p).all.size = p.data.length := S_size _
  rw [this]
  exact h1 p hp
theorem next_go {T : DS} (hr : T.runs = true) (hd : T.due = none) : T.next.runs = true ∧ T.next = T.step.tick := by
  have e : T.next = T.step.tick := by unfold DS.next; rw [if_pos hr, hd]
  refine ⟨?_, e⟩
  rw [e]
  unfold DS.tick
  split
  · exact hr
  · split
    · exact hr
    · exact hr
theorem next_halt {T : DS} (hr : T.runs = true) {yz : Int × Int} (hd : T.due = some yz) : T.next.runs = false := by
  unfold DS.next
  rw [if_pos hr, hd]
end Go.Proofs.YtbnicjpkfldcdaaDoor

/- DiskKeeps: one call of the script, in three outcomes. -/
namespace Go.Proofs.YtbnicjpkfldcdaaDoor
open Go.RowKit Go.Lib

/-- A new block is kept. -/
theorem KD.keep {A : Whys} {w0 X Y : World} {d bp : Nat} {T : DS} {P : List PF} {G : List LE} {K : List (Nat × Obj)} (h : KD A w0 d bp T P G K X) (hb : Below X.heap.size X Y) {o : Obj} (ho : Y.heap[X.heap.size]? = some o) : KD A w0 d bp T P G ((X.heap.size, o) :: K) Y := by
  have h0 := h
  obtain ⟨m, sv, clk, F, vn, va, vs, h1, rfl, hb0, he, h2, hd, hK⟩ := h0
  refine ⟨m, sv, clk, F, vn, va, vs, h1.below hb, rfl, hb0.trans (hb.mono hb0.size), he.below (hb.mono hb0.size), h2.on hb, hd, fun x hx => ?_⟩
  rcases List.mem_cons.1 hx with rfl | hx
  · exact ⟨ho, fun e => Nat.lt_irrefl _ (h1.lt e), fun e => Nat.lt_irrefl _ (h2.lt e)⟩
  · obtain ⟨q1, q2, q3⟩ := hK x hx
    exact ⟨by rw [hb.block _ (lt_of_heap q1)]; exact q1, q2, q3⟩
theorem KI.keep {A : Whys} {w X Y : World} {d bp k : Nat} {T : DS} {P : List PF} {G : List LE} {K : List (Nat × Obj)} (h : KI A w d bp k T P G K X) (hb : Below X.heap.size X Y) {o : Obj} (ho : Y.heap[X.heap.size]? = some o) : KI A w d bp k T P G ((X.heap.size, o) :: K) Y := ⟨h.kd.keep hb ho, h.quota, h.ok, h.runs, h.steps, h.len, h.log, h.nm⟩
/-- The machine has stopped. -/
structure KStop (A : Whys) (w : World) (d bp k : Nat) (G : List LE) (K : List (Nat × Obj)) (q : ActR) (T : DS) (P : List PF) (X : World) : Prop where
  kd : KD A w d bp T P G K X
  quota : T.quota = 4000
  runs : T.runs = false
  steps : T.steps ≤ 200 * k + 1
  len : P.length ≤ k + 1
  rel : RelR P G q
  nm : NmK P
  full : ∀ p, p ∈ P → p.dur = p.data.length
/-- It went well. -/
structure KDone (A : Whys) (w : World) (d bp k : Nat) (T0 : DS) (P : List PF) (G : List LE) (K : List (Nat × Obj)) (q : ActR) (T : DS) (X : World) : Prop where
  kd : KD A w d bp T (doneK P q) G K X
  quota : T.quota = 4000
  ok : T.ok
  runs : T.runs = true
  steps : T.steps ≤ 200 * k + 1
  len : (doneK P q).length ≤ k + 1
  nm : NmK (doneK P q)
  code : codeK T0 P q = 0
def Does3 (A : Whys) (w : World) (d bp k : Nat) (T0 : DS) (P : List PF) (G : List LE) (K : List (Nat × Obj)) (q : ActR) (s : ByteArray) (r : Value) (X : World) : Prop :=
  (∃ b op nm step T P', r = failV b ∧ KStop A w d bp k G ((b, failObj A op nm step 93) :: K) q T P' X) ∨
  (∃ b op nm step code T, code ≠ 93 ∧ r = failV b ∧ s = ⟨#[]⟩ ∧ KI A w d bp (k + 1) T P G ((b, failObj A op nm step code) :: K) X) ∨
  (∃ T, r = .nilIface ∧ s = (if q.kind = 3 then S (dataP q.name P) else ⟨#[]⟩) ∧ KDone A w d bp k T0 P G K q T X)
theorem read_code {T : DS} {P : List PF} {q : ActR} (h : q.kind = 3) : codeK T P q = lookC P q.name := by
  unfold codeK
  rw [if_neg (by omega), if_neg (by omega), if_neg (by omega)]
theorem KI.does {A : Whys} {w X : World} {d bp k : Nat} {T : DS} {P : List PF} {G : List LE} {K : List (Nat × Obj)} (h : KI A w d bp k T P G K X) (hk : k < 150) (q : ActR) (hq : 1 ≤ q.kind ∧ q.kind ≤ 6) (hns : q.name.size ≤ 140737488355328) (hts : q.dest.size ≤ 140737488355328) :
    Calls Tryd.prog 8 #[.pointer (some ⟨d, 0, none⟩), .agg q.cells] X fun e w' => ∃ s r, e = .returned (.tuple #[.string s, r]) ∧ Does3 A w d bp k T P G K q s r w' := by
  have hst := h.steps
  have hln := h.len
  have hqn := (DS.next_quota T)
  have hdur := h.kd.fok.1
  refine (h.kd.does h.ok (by omega) q hq hns hts).mono ?_
  rintro e w' ⟨s, r, rfl, hs, hE⟩
  refine ⟨s, r, rfl, ?_⟩
  cases hd : T.due with
  | some yz =>
    obtain ⟨y, z⟩ := yz
    have ec : errC T (codeK T P q) = 93 := by unfold errC; rw [if_pos h.runs, hd]
    have ef : nextF T (codeK T P q) P (doneK P q) (partK P q) = (if codeK T P q = 0 then partK P q y else P).map (tornP z) := by unfold nextF; rw [if_pos h.runs, hd]
    rw [ec, ef] at hE
    rcases hE with ⟨e0, _⟩ | ⟨_, op, nm, b, rfl, hK⟩
    · cases e0
    · refine .inl ⟨b, op, nm, _, _, _, rfl, hK, hqn.1.trans h.quota, next_halt h.runs hd, by omega, ?_, ?_, ?_, ?_⟩
      · rw [List.length_map]
        split
        · have := len_part P q y; omega
        · omega
      · refine rel_stop z h.log hdur (fun p hp => ?_)
        split
        · exact part_other y hp
        · exact Iff.rfl
      · refine nm_torn z ?_
        split
        · exact nm_part (T := T) y (by assumption) h.nm
        · exact h.nm
      · refine torn_full z ?_
        split
        · exact fok_part q y hdur
        · exact hdur
  | none =>
    obtain ⟨hrun, hnx⟩ := next_go h.runs hd
    have ec : errC T (codeK T P q) = codeK T P q := by unfold errC; rw [if_pos h.runs, hd]
    have ef : nextF T (codeK T P q) P (doneK P q) (partK P q) = if codeK T P q = 0 then doneK P q else P := by unfold nextF; rw [if_pos h.runs, hd]
    rw [ec, ef] at hE
    rcases hE with ⟨e0, rfl, hK⟩ | ⟨e0, op, nm, b, rfl, hK⟩
    · rw [if_pos e0] at hK
      refine .inr (.inr ⟨_, rfl, ?_, hK, hqn.1.trans h.quota, DS.next_ok h.ok, hrun, by omega, ?_, nm_done e0 h.nm, e0⟩)
      · rw [hs]
        split
        · rename_i h3
          have hl : lookC P q.name = 0 := by rw [← read_code (T := T) h3]; exact e0
          unfold readT
          rw [if_pos ⟨h.runs, hd, hl⟩]
        · rfl
      · have := len_done P q; omega
    · rw [if_neg e0] at hK
      refine .inr (.inl ⟨b, op, nm, _, _, _, codeK_93 T P q, rfl, ?_, hK, hqn.1.trans h.quota, DS.next_ok h.ok, hrun, by omega, by omega, h.log, h.nm⟩)
      rw [hs]
      split
      · rename_i h3
        have hl : ¬ lookC P q.name = 0 := by rw [← read_code (T := T) h3]; exact e0
        unfold readT
        rw [if_neg (fun x => hl x.2.2)]
      · rfl
/-- A stop: the plan is left out, the machine starts, what is there is read. -/
theorem KStop.plan {A : Whys} {w X : World} {d bp k : Nat} {G : List LE} {K : List (Nat × Obj)} {q : ActR} {T : DS} {P : List PF} (h : KStop A w d bp k G K q T P X) :
    Calls Tryd.prog 6 #[.pointer (some ⟨d, 0, none⟩), .slice none 0 0] X fun e w' => e = .returned (.tuple #[]) ∧ KStop A w d bp k G K q { T with stops := [] } P w' := by
  refine (h.kd.planN (by rw [h.quota]; decide)).mono ?_
  rintro e w' ⟨rfl, hK⟩
  exact ⟨rfl, hK, h.quota, h.runs, h.steps, h.len, h.rel, h.nm, h.full⟩
theorem KStop.start {A : Whys} {w X : World} {d bp k : Nat} {G : List LE} {K : List (Nat × Obj)} {q : ActR} {T : DS} {P : List PF} (h : KStop A w d bp k G K q T P X) :
    Calls Tryd.prog 11 #[.pointer (some ⟨d, 0, none⟩)] X fun e w' => e = .returned (.tuple #[]) ∧ KD A w d bp T.on P G K w' := by
  exact h.kd.start (by rw [h.quota]; decide)
theorem KStop.reads {A : Whys} {w X W : World} {d bp k : Nat} {G : List LE} {K : List (Nat × Obj)} {q : ActR} {T : DS} {P : List PF} (h : KStop A w d bp k G K q { T with stops := [] } P X) (hk : k < 150) (hg : G.length ≤ 1000000) (hsg : ∀ e, e ∈ G → e.all.size ≤ 4000) (hD : KD A w d bp (DS.on { T with stops := [] }) P G K W) :
    Calls Tryd.prog 12 #[.pointer (some ⟨bp, 0, none⟩), .pointer (some ⟨d, 0, none⟩), .agg q.cells] W fun e w' => e = .returned (.bool true) ∧ ∃ T' G', KI A w d bp (k + 1) T' P G' K w' := by
  have hst : T.steps ≤ 200 * k + 1 := h.steps
  have hln := h.len
  have hf := hD.fok.2.1
  have hq0 : (DS.on { T with stops := [] }).quota = 4000 := h.quota
  rw [hq0] at hf
  refine (reads_any hD (fun s hs => (by cases hs)) (by show T.steps + P.length < _; omega) rfl rfl h.nm (by omega) hg (fun p hp => by have := used_mem hp; omega) (fun e he => by have := hsg e he; omega) q h.rel).mono ?_
  rintro e w' ⟨rfl, G', hK, hp⟩
  refine ⟨rfl, _, G', hK, hq0, fun s hs => (by cases hs), rfl, ?_, hln, log_fresh hD.names h.full hp, h.nm⟩
  show T.steps + P.length ≤ _
  omega
end Go.Proofs.YtbnicjpkfldcdaaDoor
