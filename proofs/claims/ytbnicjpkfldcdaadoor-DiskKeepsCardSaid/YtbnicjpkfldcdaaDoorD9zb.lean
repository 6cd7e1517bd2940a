/- disk: a disk that the call made, with errors that are kept beside it; the operations once more. -/
import Derived.Test.YtbnicjpkfldcdaaDoorD9z
namespace Go.Proofs.YtbnicjpkfldcdaaDoor
open Go.RowKit Go.Lib

def Dk (A : Whys) (w0 : World) (d : Nat) (S : DS) (P : List PF) (K : List (Nat × Obj)) (w : World) : Prop :=
  ∃ m sv clk F, DiskAt w0.heap.size d m clk sv S F w ∧ F.map FE.pl = P ∧ Below w0.heap.size w0 w ∧ Env A w0.heap.size w ∧ ∀ x, x ∈ K → w.heap[x.1]? = some x.2 ∧ x.1 ∉ fpOf d m sv F
def ErrK (A : Whys) (op name : ByteArray) (step code : Int) (r : Value) (K K' : List (Nat × Obj)) : Prop :=
  (code = 0 ∧ r = .nilIface ∧ K' = K) ∨ (code ≠ 0 ∧ ∃ p, r = failV p ∧ K' = (p, failObj A op name step code) :: K)
theorem keep_on {d m : Nat} {sv sv' : Value} {F F' : List FE} {K : List (Nat × Obj)} {w w' : World} (hK : ∀ x, x ∈ K → w.heap[x.1]? = some x.2 ∧ x.1 ∉ fpOf d m sv F) (hS : Stays (fpOf d m sv F) w w') (hM : ∀ b, b ∈ fpOf d m sv' F' → b ∈ fpOf d m sv F ∨ w.heap.size ≤ b) :
    ∀ x, x ∈ K → w'.heap[x.1]? = some x.2 ∧ x.1 ∉ fpOf d m sv' F' := by
  intro x hx
  obtain ⟨h1, h2⟩ := hK x hx
  have hl := lt_of_heap h1
  refine ⟨by rw [hS.block _ hl h2]; exact h1, fun e => ?_⟩
  rcases hM _ e with e' | e'
  · exact h2 e'
  · omega
theorem After.toD {A : Whys} {w0 w w' : World} {d m clk : Nat} {sv : Value} {S : DS} {F : List FE} {K : List (Nat × Obj)} {op name : ByteArray} {code : Int} {G : List PF} {Gp : Int → List PF} {e : Ending} (h : DiskAt w0.heap.size d m clk sv S F w) (hb : Below w0.heap.size w0 w) (he : Env A w0.heap.size w) (hK : ∀ x, x ∈ K → w.heap[x.1]? = some x.2 ∧ x.1 ∉ fpOf d m sv F)
    (hA : After A w0.heap.size d m sv S F op name code G Gp w e w') : ∃ r K', e = .returned r ∧ Dk A w0 d S.next (nextF S code (F.map FE.pl) G Gp) K' w' ∧ ErrK A op name (errS S) (errC S code) r K K' := by
  obtain ⟨r, sv', clk', F', rfl, hD, hG, hS, hM, hE⟩ := hA
  have hK2 := keep_on hK hS hM
  have hb2 : Below w0.heap.size w0 w' := hb.trans (hS.below h.base h.size)
  have he2 := he.stays hS h.base
  rcases hE with ⟨hc, rfl⟩ | ⟨hc, p, rfl, hp, _, ho⟩
  · exact ⟨_, K, rfl, ⟨m, sv', clk', F', hD, hG, hb2, he2, hK2⟩, .inl ⟨hc, rfl, rfl⟩⟩
  · refine ⟨_, (p, failObj A op name (errS S) (errC S code)) :: K, rfl, ⟨m, sv', clk', F', hD, hG, hb2, he2, ?_⟩, .inr ⟨hc, p, rfl, rfl⟩⟩
    intro x hx
    rcases List.mem_cons.1 hx with rfl | hx
    · exact ⟨hp, ho⟩
    · exact hK2 x hx
theorem AppendD {A : Whys} {w0 w : World} {d : Nat} {S : DS} {P : List PF} {K : List (Nat × Obj)} (h : Dk A w0 d S P K w) (hok : S.ok) (hn : S.steps < 1000000000) (n s : ByteArray) (hns : n.size ≤ 140737488355328) :
    Calls Tryd.prog 16 #[.pointer (some ⟨d, 0, none⟩), .string n, .string s] w fun e w' => ∃ r K', e = .returned r ∧ Dk A w0 d S.next (nextF S (appCode S P n s) P (growP n (L s) P) (fun y => growP n ((L s).take (wth y (s.size : Int)).toNat) P)) K' w' ∧ ErrK A sApp n (errS S) (errC S (appCode S P n s)) r K K' := by
  obtain ⟨m, sv, clk, F, hD, rfl, hb, he, hK⟩ := h
  refine (Append_any hD he hok hn n s hns).mono ?_
  intro e w' hA
  exact hA.toD hD hb he hK
theorem SyncD {A : Whys} {w0 w : World} {d : Nat} {S : DS} {P : List PF} {K : List (Nat × Obj)} (h : Dk A w0 d S P K w) (hok : S.ok) (hn : S.steps < 1000000000) (n : ByteArray) (hns : n.size ≤ 140737488355328) :
    Calls Tryd.prog 22 #[.pointer (some ⟨d, 0, none⟩), .string n] w fun e w' => ∃ r K', e = .returned r ∧ Dk A w0 d S.next (nextF S (lookC P n) P (modP n syncP P) (fun y => if 1 ≤ y then modP n syncP P else P)) K' w' ∧ ErrK A sSync n (errS S) (errC S (lookC P n)) r K K' := by
  obtain ⟨m, sv, clk, F, hD, rfl, hb, he, hK⟩ := h
  refine (Sync_any hD he hok hn n hns).mono ?_
  intro e w' hA
  exact hA.toD hD hb he hK
theorem RemoveD {A : Whys} {w0 w : World} {d : Nat} {S : DS} {P : List PF} {K : List (Nat × Obj)} (h : Dk A w0 d S P K w) (hok : S.ok) (hn : S.steps < 1000000000) (n : ByteArray) (hns : n.size ≤ 140737488355328) :
    Calls Tryd.prog 24 #[.pointer (some ⟨d, 0, none⟩), .string n] w fun e w' => ∃ r K', e = .returned r ∧ Dk A w0 d S.next (nextF S (lookC P n) P (dropP n P) (fun y => if 1 ≤ y then dropP n P else P)) K' w' ∧ ErrK A sRemove n (errS S) (errC S (lookC P n)) r K K' := by
  obtain ⟨m, sv, clk, F, hD, rfl, hb, he, hK⟩ := h
  refine (Remove_any hD he hok hn n hns).mono ?_
  intro e w' hA
  exact hA.toD hD hb he hK
theorem RenameD {A : Whys} {w0 w : World} {d : Nat} {S : DS} {P : List PF} {K : List (Nat × Obj)} (h : Dk A w0 d S P K w) (hok : S.ok) (hn : S.steps < 1000000000) (a b : ByteArray) (has : a.size ≤ 140737488355328) (hbs : b.size ≤ 140737488355328) :
    Calls Tryd.prog 23 #[.pointer (some ⟨d, 0, none⟩), .string a, .string b] w fun e w' => ∃ r K', e = .returned r ∧ Dk A w0 d S.next (nextF S (renC P a b) P (moveP a b P) (fun y => if 1 ≤ y then moveP a b P else P)) K' w' ∧ ErrK A sRename a (errS S) (errC S (renC P a b)) r K K' := by
  obtain ⟨m, sv, clk, F, hD, rfl, hb, he, hK⟩ := h
  refine (Rename_any hD he hok hn a b has hbs).mono ?_
  intro e w' hA
  exact hA.toD hD hb he hK
theorem ReadD {A : Whys} {w0 w : World} {d : Nat} {S : DS} {P : List PF} {K : List (Nat × Obj)} (h : Dk A w0 d S P K w) (hok : S.ok) (hn : S.steps < 1000000000) (n : ByteArray) (hns : n.size ≤ 140737488355328) :
    Calls Tryd.prog 17 #[.pointer (some ⟨d, 0, none⟩), .string n] w fun e w' => ∃ r K', e = .returned (.tuple #[.string (readT S P n), r]) ∧ Dk A w0 d S.next (nextF S (lookC P n) P P (fun _ => P)) K' w' ∧ ErrK A sRead n (errS S) (errC S (lookC P n)) r K K' := by
  obtain ⟨m, sv, clk, F, hD, rfl, hb, he, hK⟩ := h
  refine (Read_any hD he hok hn n hns).mono ?_
  rintro e w' ⟨r, rfl, hA⟩
  obtain ⟨r', K', e', hd, hk⟩ := hA.toD hD hb he hK
  injection e' with e'
  subst e'
  exact ⟨r, K', rfl, hd, hk⟩
theorem StartD {A : Whys} {w0 w : World} {d : Nat} {S : DS} {P : List PF} {K : List (Nat × Obj)} (h : Dk A w0 d S P K w) (hq : 1 ≤ S.quota) :
    Calls Tryd.prog 11 #[.pointer (some ⟨d, 0, none⟩)] w fun e w' => e = .returned (.tuple #[]) ∧ Dk A w0 d S.on P K w' := by
  obtain ⟨m, sv, clk, F, hD, rfl, hb, he, hK⟩ := h
  refine (Start_any hD hq).mono ?_
  rintro e w' ⟨rfl, hD', hS⟩
  exact ⟨rfl, m, sv, clk, F, hD', rfl, hb.trans (hS.below hD.base hD.size), he.stays hS hD.base, keep_on hK hS (fun b hb => .inl hb)⟩
theorem PlanD {A : Whys} {w0 w : World} {d : Nat} {S : DS} {P : List PF} {K : List (Nat × Obj)} (h : Dk A w0 d S P K w) (hq : 1 ≤ S.quota) (l : List (Int × Int × Int)) (cs : Array Value) (hl : l.length ≤ 1000000000) (hin : StopsIn (w.alloc (.cells cs 56)) w.heap.size 0 l.length l) (c : Nat) :
    Calls Tryd.prog 6 #[.pointer (some ⟨d, 0, none⟩), .slice (some ⟨w.heap.size, 0, none⟩) l.length c] (w.alloc (.cells cs 56)) fun e w' => e = .returned (.tuple #[]) ∧ Dk A w0 d { S with stops := planP l } P K w' := by
  obtain ⟨m, sv, clk, F, hD, rfl, hb, he, hK⟩ := h
  refine (Plan_some (hD.alloc (.cells cs 56)) hq l w.heap.size 0 c (by omega) (hD.far (Nat.le_refl _)) hin).mono ?_
  rintro e w' ⟨rfl, sv', hD', hS, hM⟩
  have hS' : Stays (fpOf d m sv F) w w' := ((Stays.refl _ w).alloc _).trans hS (fun b hb => .inl hb)
  have hM' : ∀ b, b ∈ fpOf d m sv' F → b ∈ fpOf d m sv F ∨ w.heap.size ≤ b := fun b hb => by
    rcases hM b hb with e | e
    · exact .inl e
    · exact .inr (by simp at e; omega)
  exact ⟨rfl, m, sv', clk, F, hD', rfl, hb.trans (hS'.below hD.base hD.size), he.stays hS' hD.base, keep_on hK hS' hM'⟩
theorem DownD {A : Whys} {w0 w : World} {d : Nat} {S : DS} {P : List PF} {K : List (Nat × Obj)} (h : Dk A w0 d S P K w) :
    Calls Tryd.prog 9 #[.pointer (some ⟨d, 0, none⟩)] w fun e w' => e = .returned (.bool (!S.runs)) ∧ w' = w := by
  obtain ⟨m, sv, clk, F, hD, rfl, hb, he, hK⟩ := h
  exact Down_any hD
theorem StepsD {A : Whys} {w0 w : World} {d : Nat} {S : DS} {P : List PF} {K : List (Nat × Obj)} (h : Dk A w0 d S P K w) :
    Calls Tryd.prog 19 #[.pointer (some ⟨d, 0, none⟩)] w fun e w' => e = .returned (.int .i64 (S.steps : Int)) ∧ w' = w := by
  obtain ⟨m, sv, clk, F, hD, rfl, hb, he, hK⟩ := h
  exact Steps_any hD
theorem UsedD {A : Whys} {w0 w : World} {d : Nat} {S : DS} {P : List PF} {K : List (Nat × Obj)} (h : Dk A w0 d S P K w) :
    Calls Tryd.prog 18 #[.pointer (some ⟨d, 0, none⟩)] w fun e w' => e = .returned (.int .i64 (usedP P : Int)) ∧ w' = w := by
  obtain ⟨m, sv, clk, F, hD, rfl, hb, he, hK⟩ := h
  rw [← usedF_pl]
  exact Used_any hD
theorem QuotaD {A : Whys} {w0 w : World} {d : Nat} {S : DS} {P : List PF} {K : List (Nat × Obj)} (h : Dk A w0 d S P K w) :
    Calls Tryd.prog 34 #[.pointer (some ⟨d, 0, none⟩)] w fun e w' => e = .returned (.int .i64 (S.quota : Int)) ∧ w' = w := by
  obtain ⟨m, sv, clk, F, hD, rfl, hb, he, hK⟩ := h
  exact Quota_any hD
theorem NewD {A : Whys} {w0 w : World} (hb : Below w0.heap.size w0 w) (he : Env A w0.heap.size w) (q : Nat) (hq : 1 ≤ q) (hq' : q ≤ 1048576) :
    Calls Tryd.prog 5 #[.int .i64 (q : Int)] w fun e w' => ∃ d, e = .returned (.tuple #[.pointer (some ⟨d, 0, none⟩), .nilIface]) ∧ Dk A w0 d ⟨q, 0, true, []⟩ [] [] w' := by
  refine (New_ok w0.heap.size q w hq hq' hb.size).mono ?_
  rintro e w' ⟨rfl, hD, hB⟩
  have hbb : Below w0.heap.size w0 w' := hb.trans (hB.mono hb.size)
  exact ⟨_, rfl, _, _, _, _, hD, rfl, hbb, he.below (hB.mono hb.size), fun x hx => by cases hx⟩
/-- errors.Is of an error that is kept. -/
theorem IsD {A : Whys} {w0 w : World} {d : Nat} {S : DS} {P : List PF} {K : List (Nat × Obj)} (h : Dk A w0 d S P K w) {p : Nat} {op name : ByteArray} {step code : Int} (hp : (p, failObj A op name step code) ∈ K) (code2 : Int) :
    Calls Tryd.prog 10 #[failV p, whyV (A.at code2)] w fun e w' => e = .returned (.bool (decide (A.at code = A.at code2))) ∧ w' = w := by
  obtain ⟨m, sv, clk, F, hD, rfl, hb, he, hK⟩ := h
  obtain ⟨hp1, _⟩ := hK _ hp
  unfold failObj at hp1
  have hin : ∀ c, A.at c = A.n ∨ A.at c = A.m ∨ A.at c = A.q ∨ A.at c = A.d ∨ A.at c = A.r := by
    intro c
    unfold Whys.at
    split
    · simp
    split
    · simp
    split
    · simp
    split
    · simp
    · simp
  by_cases e : A.at code = A.at code2
  · rw [decide_eq_true e, ← e]
    exact is_fail_same p _ w (cell_of hp1 4)
  · rw [decide_eq_false e]
    obtain ⟨ca, ta, ha⟩ := he.row _ (hin code)
    obtain ⟨cb, tb, hb'⟩ := he.row _ (hin code2)
    exact is_fail_other p _ _ ca cb ta tb w (cell_of hp1 4) e ha hb'
end Go.Proofs.YtbnicjpkfldcdaaDoor

/- disk: known. -/
namespace Go.Proofs.YtbnicjpkfldcdaaDoor
open Go.RowKit Go.Lib

theorem Env.up {A : Whys} {B B' : Nat} {w : World} (h : Env A B w) (h1 : B ≤ B') (h2 : B' ≤ w.heap.size) : Env A B' w :=
  ⟨h.n, h.m, h.q, h.d, h.r, h.row, h.apart, fun a ha => Nat.lt_of_lt_of_le (h.lt a ha) h1, Nat.le_trans h.lo h1, h2⟩
theorem ErrK.ok {A : Whys} {op name : ByteArray} {step code : Int} {r : Value} {K K' : List (Nat × Obj)} (h : ErrK A op name step code r K K') (hc : code = 0) : r = .nilIface ∧ K' = K := by
  rcases h with ⟨_, h1, h2⟩ | ⟨hn, _⟩
  · exact ⟨h1, h2⟩
  · exact absurd hc hn
theorem ErrK.bad {A : Whys} {op name : ByteArray} {step code : Int} {r : Value} {K K' : List (Nat × Obj)} (h : ErrK A op name step code r K K') (hc : code ≠ 0) : ∃ p, r = failV p ∧ K' = (p, failObj A op name step code) :: K := by
  rcases h with ⟨h0, _⟩ | ⟨_, p, h1, h2⟩
  · exact absurd h0 hc
  · exact ⟨p, h1, h2⟩
theorem ok_nil (q s : Nat) (r : Bool) : DS.ok ⟨q, s, r, []⟩ := fun x hx => by cases hx
def kA : ByteArray := ⟨#[97]⟩
def kH : ByteArray := ⟨#[104, 101, 108, 108, 111]⟩
theorem knA1 {A : Whys} {w0 w : World} {d : Nat} (h : Dk A w0 d ⟨10, 0, true, []⟩ [] [] w) :
    Calls Tryd.prog 16 #[.pointer (some ⟨d, 0, none⟩), .string kA, .string kH] w fun e w' => e = .returned .nilIface ∧ Dk A w0 d ⟨10, 1, true, []⟩ [⟨kA, L kH, 0⟩] [] w' := by
  refine (AppendD h (ok_nil _ _ _) (by decide) kA kH (by decide)).mono ?_
  rintro e w' ⟨r, K', rfl, hD, hE⟩
  obtain ⟨rfl, rfl⟩ := hE.ok (by decide)
  exact ⟨rfl, hD⟩
theorem knA2 {A : Whys} {w0 w : World} {d : Nat} (h : Dk A w0 d ⟨10, 1, true, []⟩ [⟨kA, L kH, 0⟩] [] w) :
    Calls Tryd.prog 16 #[.pointer (some ⟨d, 0, none⟩), .string ⟨#[65]⟩, .string ⟨#[120]⟩] w fun e w' => ∃ p, e = .returned (failV p) ∧ Dk A w0 d ⟨10, 2, true, []⟩ [⟨kA, L kH, 0⟩] [(p, failObj A sApp ⟨#[65]⟩ 2 90)] w' := by
  refine (AppendD h (ok_nil _ _ _) (by decide) ⟨#[65]⟩ ⟨#[120]⟩ (by decide)).mono ?_
  rintro e w' ⟨r, K', rfl, hD, hE⟩
  obtain ⟨p, rfl, rfl⟩ := hE.bad (by decide)
  exact ⟨p, rfl, hD⟩
theorem knR {A : Whys} {w0 w : World} {d : Nat} {K : List (Nat × Obj)} (h : Dk A w0 d ⟨10, 2, true, []⟩ [⟨kA, L kH, 0⟩] K w) :
    Calls Tryd.prog 17 #[.pointer (some ⟨d, 0, none⟩), .string kA] w fun e w' => e = .returned (.tuple #[.string kH, .nilIface]) ∧ Dk A w0 d ⟨10, 3, true, []⟩ [⟨kA, L kH, 0⟩] K w' := by
  refine (ReadD h (ok_nil _ _ _) (by decide) kA (by decide)).mono ?_
  rintro e w' ⟨r, K', rfl, hD, hE⟩
  obtain ⟨rfl, rfl⟩ := hE.ok (by decide)
  exact ⟨by
    have : readT ⟨10, 2, true, []⟩ [⟨kA, L kH, 0⟩] kA = kH := by decide
    rw [this], hD⟩
set_option maxHeartbeats 4000000 in
theorem known_any {A : Whys} {B : Nat} {w : World} (he : Env A B w) : Calls Tryd.prog 4 #[] w fun e w' => e = .returned (.bool true) ∧ Below w.heap.size w w' := by
  have he0 := he.up he.hi (Nat.le_refl _)
  have HN := Lib.hid (NewD (q := 10) (Below.refl _ w) he0 (by decide) (by decide))
  have H1 := Lib.hid (fun d W (h : Dk A w d ⟨10, 0, true, []⟩ [] [] W) => knA1 h)
  have H2 := Lib.hid (fun d W (h : Dk A w d ⟨10, 1, true, []⟩ [⟨kA, L kH, 0⟩] [] W) => knA2 h)
  have H3 := Lib.hid (fun d W K (h : Dk A w d ⟨10, 2, true, []⟩ [⟨kA, L kH, 0⟩] K W) => knR h)
  have HI : Hid (∀ d W p, Dk A w d ⟨10, 3, true, []⟩ [⟨kA, L kH, 0⟩] [(p, failObj A sApp ⟨#[65]⟩ 2 90)] W → Calls Tryd.prog 10 #[failV p, whyV (A.at 90)] W fun e w' => e = .returned (.bool true) ∧ w' = W) := Lib.hid (fun d W p h => by
    have h1 := IsD h (List.mem_singleton.2 rfl) 90
    rw [decide_eq_true rfl] at h1
    exact h1)
  have HU : Hid (∀ d W K, Dk A w d ⟨10, 3, true, []⟩ [⟨kA, L kH, 0⟩] K W → Calls Tryd.prog 18 #[.pointer (some ⟨d, 0, none⟩)] W fun e w' => e = .returned (.int .i64 5) ∧ w' = W) := Lib.hid (fun d W K h => by
    have h1 := UsedD h
    have e : usedP [⟨kA, L kH, 0⟩] = 5 := by decide
    rw [e] at h1
    exact h1)
  have HS : Hid (∀ d W K, Dk A w d ⟨10, 3, true, []⟩ [⟨kA, L kH, 0⟩] K W → Calls Tryd.prog 19 #[.pointer (some ⟨d, 0, none⟩)] W fun e w' => e = .returned (.int .i64 3) ∧ w' = W) := Lib.hid (fun d W K h => StepsD h)
  have hkH : (kH.toList == [104, 101, 108, 108, 111]) = true := by
    rw [toList_L]; decide
  have HB : Hid (∀ d W S P K, Dk A w d S P K W → Below w.heap.size w W) := Lib.hid (fun d W S P K h => by obtain ⟨m, sv, clk, F, _, _, hb, _⟩ := h; exact hb)
  have HE : Hid (∀ d W S P K, Dk A w d S P K W → W.cell? ⟨1, 0, none⟩ = some (whyV (A.at 90))) := Lib.hid (fun d W S P K h => by obtain ⟨m, sv, clk, F, _, _, _, he, _⟩ := h; exact he.n)
  clear he he0
  go_enter Tryd.func4, Tryd.ntmps4
  go_upto_region 7 with (first | (go_at_call 5; refine HN.out.mono ?_; rintro e w1 ⟨d, rfl, h1⟩; have K1 := Lib.hid h1; clear h1) | (go_at_call 17; refine (H3.out _ _ _ K3.out).mono ?_; rintro e w4 ⟨rfl, h4⟩; have K4 := Lib.hid h4; clear h4) | (go_at_call 16; first | (refine (H2.out _ _ K2.out).mono ?_; rintro e w3 ⟨p, rfl, h3⟩; have K3 := Lib.hid h3; clear h3) | (refine (H1.out _ _ K1.out).mono ?_; rintro e w2 ⟨rfl, h2⟩; have K2 := Lib.hid h2; clear h2)))
  have ce := HE.out _ _ _ _ _ K4.out
  have HI5 := Lib.hid (HI.out _ _ _ K4.out)
  unfold whyV failV at *
  go_wp2_with (first | (go_at_call 10; refine HI5.out.mono ?_; rintro e w5 ⟨rfl, hw5⟩; subst w5) | (go_at_call 18; refine (HU.out _ _ _ K4.out).mono ?_; rintro e w5 ⟨rfl, hw5⟩; subst w5) | (go_at_call 19; refine (HS.out _ _ _ K4.out).mono ?_; rintro e w5 ⟨rfl, hw5⟩; subst w5))
  go_ret
  exact ⟨rfl, HB.out _ _ _ _ _ K4.out⟩
end Go.Proofs.YtbnicjpkfldcdaaDoor
