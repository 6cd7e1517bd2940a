/- DiskPlays: the document's files against the program's, plain. -/
import Derived.Test.YtgafomknpdnfcaaGreatDoorR9g
import Derived.Test.YtgafomknpdnfcaaGreatDoorD9xi
import Derived.Sort.Walk0
import Derived.Test.YtgafomknpdnfcaaGreatDoorR9m
import Derived.Test.YtgafomknpdnfcaaGreatDoorD9x
import Derived.Test.YtgafomknpdnfcaaGreatDoorD9xf
namespace Go.Proofs.YtgafomknpdnfcaaGreatDoor
open Go.RowKit

/-- Files by rising names. -/
def Ri (l : List PF) : Prop := l.Pairwise fun a b => L a.name < L b.name
theorem getP_mem {l : List PF} (hn : (l.map PF.name).Nodup) {n : ByteArray} {p : PF} : getP n l = some p ↔ p ∈ l ∧ p.name = n := by
  constructor
  · intro h
    exact ⟨List.mem_of_find?_eq_some h, by simpa using List.find?_some h⟩
  · rintro ⟨hp, rfl⟩
    induction l with
    | nil => cases hp
    | cons x l ih =>
      rw [List.map_cons, List.nodup_cons] at hn
      rcases List.mem_cons.1 hp with e | hp1
      · subst e; simp [getP]
      · have hx : x.name ≠ p.name := fun e => hn.1 (by rw [e]; exact List.mem_map.2 ⟨p, hp1, rfl⟩)
        unfold getP; rw [List.find?_cons_of_neg (by simp [hx])]
        exact ih hn.2 hp1
theorem getP_perm {l P : List PF} (h : l.Perm P) (hn : (P.map PF.name).Nodup) (n : ByteArray) : getP n l = getP n P := by
  have hl : (l.map PF.name).Nodup := ((h.map _).nodup_iff).2 hn
  cases e : getP n P with
  | none =>
    unfold getP at e ⊢
    rw [List.find?_eq_none] at e ⊢
    exact fun p hp => e p (h.mem_iff.1 hp)
  | some p =>
    obtain ⟨h1, h2⟩ := (getP_mem hn).1 e
    exact (getP_mem hl).2 ⟨h.mem_iff.2 h1, h2⟩
theorem withG_true (f : PF) (l : List PF) : withG f l true = withoutP f.name l := by
  induction l with
  | nil => rfl
  | cons x r ih =>
    unfold withG
    by_cases h : x.name = f.name
    · rw [if_pos h, ih]; simp [withoutP, h]
    · rw [if_neg h, if_neg (by simp), ih]; simp [withoutP, h]
theorem withP_perm (f : PF) (l : List PF) : (withP f l).Perm (f :: withoutP f.name l) := by
  unfold withP
  induction l with
  | nil => exact List.Perm.refl _
  | cons x r ih =>
    unfold withG
    by_cases h : x.name = f.name
    · rw [if_pos h]
      have : withoutP f.name (x :: r) = withoutP f.name r := by simp [withoutP, h]
      rw [this]; exact ih
    · rw [if_neg h]
      have e : withoutP f.name (x :: r) = x :: withoutP f.name r := by simp [withoutP, h]
      rw [e]
      split
      · rw [withG_true]
      · exact (List.Perm.cons x ih).trans (List.Perm.swap _ _ _)
theorem withP_rise (f : PF) : ∀ l, Ri l → Ri (withP f l) := by
  intro l
  unfold withP
  induction l with
  | nil => intro _; exact List.pairwise_singleton _ _
  | cons x r ih =>
    intro h
    obtain ⟨hx, hr⟩ := List.pairwise_cons.1 h
    unfold withG
    by_cases e : x.name = f.name
    · rw [if_pos e]; exact ih hr
    · rw [if_neg e]
      by_cases hb : Op.bytesLess x.name.toList f.name.toList = true
      · rw [if_neg (by simp [hb])]
        refine List.pairwise_cons.2 ⟨fun p hp => ?_, ih hr⟩
        rcases List.mem_cons.1 ((withP_perm f r).mem_iff.1 hp) with rfl | hp
        · rw [Go.Proofs.bytesLess_eq, toList_L, toList_L] at hb; simpa using hb
        · exact hx p ((List.mem_filter.1 hp).1)
      · rw [if_pos (by simp [hb]), withG_true]
        have hfx : L f.name < L x.name := by
          rw [Go.Proofs.bytesLess_eq, toList_L, toList_L] at hb
          have h1 : ¬ L x.name < L f.name := by simpa using hb
          exact Std.lt_of_le_of_ne (List.not_lt.1 h1) (fun e' => e (L_inj e').symm)
        refine List.pairwise_cons.2 ⟨fun p hp => ?_, List.pairwise_cons.2 ⟨fun p hp => hx p ((List.mem_filter.1 hp).1), List.Pairwise.filter _ hr⟩⟩
        rcases List.mem_cons.1 hp with rfl | hp
        · exact hfx
        · exact List.lt_trans hfx (hx p ((List.mem_filter.1 hp).1))
theorem withoutP_rise (n : ByteArray) {l : List PF} (h : Ri l) : Ri (withoutP n l) := List.Pairwise.filter _ h
theorem withoutP_drop (n : ByteArray) (l : List PF) : withoutP n l = dropP n l := rfl
theorem withoutP_perm (n : ByteArray) {l P : List PF} (h : l.Perm P) : (withoutP n l).Perm (dropP n P) := h.filter _
/-- One file is turned into another of its name. -/
theorem modP_perm {P : List PF} (hn : (P.map PF.name).Nodup) {n : ByteArray} {p : PF} (hp : getP n P = some p) (g : PF → PF) : (modP n g P).Perm (g p :: dropP n P) := by
  obtain ⟨hm, hpn⟩ := (getP_mem hn).1 hp
  clear hp
  induction P with
  | nil => cases hm
  | cons x r ih =>
    rw [List.map_cons, List.nodup_cons] at hn
    by_cases e : x.name = n
    · have hxp : x = p := by
        rcases List.mem_cons.1 hm with e' | hm'
        · exact e'.symm
        · exact absurd (List.mem_map.2 ⟨p, hm', hpn.trans e.symm⟩) hn.1
      subst hxp
      have hr : ∀ y, y ∈ r → y.name ≠ n := fun y hy e' => hn.1 (by rw [e, ← e']; exact List.mem_map.2 ⟨y, hy, rfl⟩)
      have e1 : modP n g r = r := by
        unfold modP
        conv => rhs; rw [← List.map_id r]
        exact List.map_congr_left (fun y hy => by rw [if_neg (hr y hy)]; rfl)
      have e2 : dropP n r = r := List.filter_eq_self.2 (fun y hy => by simp [hr y hy])
      have e3 : modP n g (x :: r) = g x :: modP n g r := by simp [modP, e]
      have e4 : dropP n (x :: r) = dropP n r := by simp [dropP, e]
      rw [e3, e4, e1, e2]
    · have hm' : p ∈ r := by
        rcases List.mem_cons.1 hm with e' | hm'
        · exact absurd (e' ▸ hpn) e
        · exact hm'
      have e3 : modP n g (x :: r) = x :: modP n g r := by simp [modP, e]
      have e4 : dropP n (x :: r) = x :: dropP n r := by simp [dropP, e]
      rw [e3, e4]
      exact (List.Perm.cons x (ih hn.2 hm')).trans (List.Perm.swap _ _ _)
theorem hasP_get (n : ByteArray) (P : List PF) : hasP n P = (getP n P).isSome := by
  unfold hasP getP
  induction P with
  | nil => rfl
  | cons x r ih =>
    by_cases e : x.name = n
    · simp [e]
    · rw [List.any_cons, List.find?_cons_of_neg (by simp [e]), ih]; simp [e]
theorem dropP_none {n : ByteArray} {P : List PF} (h : getP n P = none) : dropP n P = P := by
  unfold getP at h
  rw [List.find?_eq_none] at h
  exact List.filter_eq_self.2 (fun y hy => by simpa using h y hy)
/-- Append. -/
theorem grow_meet {l P : List PF} (h : l.Perm P) (hn : (P.map PF.name).Nodup) (n : ByteArray) (x : List UInt8) : (withP { fileP n l with data := (fileP n l).data ++ x } l).Perm (growP n x P) := by
  unfold fileP
  rw [getP_perm h hn]
  refine (withP_perm _ _).trans ?_
  unfold growP
  rw [hasP_get]
  cases e : getP n P with
  | none =>
    rw [if_neg (by simp)]
    refine ((withoutP_perm n h).cons _).trans ?_
    rw [dropP_none e]
    exact (List.perm_append_singleton _ _).symm
  | some p =>
    rw [if_pos (by simp)]
    have hpn := ((getP_mem hn).1 e).2
    refine List.Perm.trans ?_ (modP_perm hn e _).symm
    show List.Perm ({ p with data := p.data ++ x } :: withoutP p.name l) _
    rw [hpn]
    exact (withoutP_perm n h).cons _
theorem mod_meet {l P : List PF} (h : l.Perm P) (hn : (P.map PF.name).Nodup) {n : ByteArray} {p : PF} (hp : getP n P = some p) (g : PF → PF) (hg : (g p).name = n) : (withP (g p) l).Perm (modP n g P) := by
  refine (withP_perm _ _).trans (List.Perm.trans ?_ (modP_perm hn hp _).symm)
  rw [hg]
  exact (withoutP_perm n h).cons _
theorem getP_name {l : List PF} {n : ByteArray} {p : PF} (h : getP n l = some p) : p.name = n := by simpa using List.find?_some h
/-- Rename. -/
theorem move_meet {l P : List PF} (h : l.Perm P) (hn : (P.map PF.name).Nodup) {a : ByteArray} {p : PF} (hp : getP a P = some p) (b : ByteArray) : (withP { p with name := b } (withoutP a l)).Perm (moveP a b P) := by
  have hm := (getP_mem hn).1 hp
  refine (withP_perm _ _).trans ?_
  unfold moveP
  by_cases e : a = b
  · subst e
    rw [if_pos rfl]
    have e1 : withoutP a (withoutP a l) = withoutP a l := by unfold withoutP; rw [List.filter_filter]; simp
    show List.Perm ({ p with name := a } :: withoutP a (withoutP a l)) P
    rw [e1]
    have e2 : ({ p with name := a } : PF) = p := by rw [← hm.2]
    rw [e2]
    have hid : modP a id P = P := by unfold modP; simp
    have := modP_perm hn hp id
    rw [hid] at this
    exact ((withoutP_perm a h).cons p).trans this.symm
  · rw [if_neg e]
    have hf : P.find? (fun p => decide (p.name = a)) = some p := hp
    rw [hf]
    show List.Perm ({ p with name := b } :: withoutP b (withoutP a l)) (dropP a (dropP b P) ++ [{ p with name := b }])
    have e1 : withoutP b (withoutP a l) = withoutP a (withoutP b l) := by unfold withoutP; rw [List.filter_filter, List.filter_filter]; congr 1; funext x; rw [Bool.and_comm]
    rw [e1]
    exact ((withoutP_perm a (withoutP_perm b h)).cons _).trans (List.perm_append_singleton _ _).symm
theorem surv_torn {p : PF} (h : p.dur ≤ p.data.length) (z : Int) : survF z p = tornP z p := by
  have : lfP z p = leftP z p := by unfold lfP leftP wth; omega
  unfold survF tornP
  rw [this]
theorem surv_meet {l P : List PF} (h : l.Perm P) (hk : ∀ p, p ∈ P → p.dur ≤ p.data.length) (z : Int) : (l.map (survF z)).Perm (P.map (tornP z)) := by
  have e : P.map (tornP z) = P.map (survF z) := List.map_congr_left (fun p hp => (surv_torn (hk p hp) z).symm)
  rw [e]
  exact h.map _
theorem surv_rise {l : List PF} (h : Ri l) (z : Int) : Ri (l.map (survF z)) := by
  unfold Ri
  rw [List.pairwise_map]
  exact h
theorem usedP_perm {l P : List PF} (h : l.Perm P) : usedP l = usedP P := by
  unfold usedP
  exact (h.map _).sum_nat
end Go.Proofs.YtgafomknpdnfcaaGreatDoor

/- DiskPlays: what the document's operations leave of its files, plain. -/
namespace Go.Proofs.YtgafomknpdnfcaaGreatDoor
open Go.RowKit

theorem mem_used {l : List PF} {p : PF} (h : p ∈ l) : p.data.length ≤ usedP l := by
  induction l with
  | nil => cases h
  | cons x r ih =>
    have e : usedP (x :: r) = x.data.length + usedP r := by simp [usedP]
    rcases List.mem_cons.1 h with rfl | h
    · omega
    · have := ih h; omega
theorem fileP_cases (nm : ByteArray) (l : List PF) : (getP nm l = none ∧ fileP nm l = ⟨nm, [], 0⟩) ∨ ∃ p, getP nm l = some p ∧ fileP nm l = p ∧ p ∈ l ∧ p.name = nm := by
  unfold fileP
  cases e : getP nm l with
  | none => exact .inl ⟨rfl, rfl⟩
  | some p => exact .inr ⟨p, rfl, rfl, List.mem_of_find?_eq_some e, getP_name e⟩
theorem fileP_fok {nm : ByteArray} {l : List PF} (h : ∀ p, p ∈ l → FOk p) : FOk (fileP nm l) ∧ (fileP nm l).data.length ≤ usedP l := by
  rcases fileP_cases nm l with ⟨_, e⟩ | ⟨p, _, e, hm, _⟩
  · rw [e]; exact ⟨⟨Nat.le_refl _, by simp⟩, by simp⟩
  · rw [e]; exact ⟨h p hm, mem_used hm⟩
theorem withP_mem {f : PF} {l : List PF} {p : PF} (h : p ∈ withP f l) : p = f ∨ p ∈ l := by
  rcases List.mem_cons.1 ((withP_perm f l).mem_iff.1 h) with h | h
  · exact .inl h
  · exact .inr (List.mem_filter.1 h).1
theorem withP_len (f : PF) (l : List PF) : (withP f l).length ≤ l.length + 1 := by
  rw [(withP_perm f l).length_eq, List.length_cons]
  have : (withoutP f.name l).length ≤ l.length := List.length_filter_le _ _
  omega
theorem doneR_fok {l : List PF} (h : ∀ p, p ∈ l → FOk p) (kd : Int) (nm dst dat : ByteArray) (n : Int) (hu : kd = 1 → usedP l + dat.size ≤ 1000000000) : ∀ p, p ∈ doneR l kd nm dst dat n → FOk p := by
  obtain ⟨hf, hfu⟩ := fileP_fok (nm := nm) h
  intro p hp
  unfold doneR at hp
  split at hp
  · rename_i h1
    rcases withP_mem hp with rfl | hp
    · have := hu h1
      refine ⟨?_, ?_⟩
      · simp only [List.length_append]; have := hf.1; omega
      · simp only [List.length_append, L_length]; omega
    · exact h p hp
  split at hp
  · rcases withP_mem hp with rfl | hp
    · exact ⟨Nat.le_refl _, hf.2⟩
    · exact h p hp
  split at hp
  · rcases withP_mem hp with rfl | hp
    · exact hf
    · exact h p (List.mem_filter.1 hp).1
  split at hp
  · exact h p (List.mem_filter.1 hp).1
  split at hp
  · rcases withP_mem hp with rfl | hp
    · have := hf.1
      have := hf.2
      exact ⟨by simp only [List.length_take]; omega, by simp only [List.length_take]; omega⟩
    · exact h p hp
  · rcases withP_mem hp with rfl | hp
    · exact hf
    · exact h p hp
theorem doneR_len (l : List PF) (kd : Int) (nm dst dat : ByteArray) (n : Int) : (doneR l kd nm dst dat n).length ≤ l.length + 1 := by
  have hw : (withoutP nm l).length ≤ l.length := List.length_filter_le _ _
  unfold doneR
  split
  · exact withP_len _ _
  split
  · exact withP_len _ _
  split
  · have := withP_len { fileP nm l with name := dst } (withoutP nm l); omega
  split
  · omega
  split
  · exact withP_len _ _
  · exact withP_len _ _
theorem refR_fits {q : Int} {l : List PF} {kd : Int} {nm dst dat : ByteArray} {n : Int} (h : refR q l kd nm dst dat n = 0) (h1 : kd = 1) : (usedP l : Int) + (dat.size : Int) ≤ q := by
  subst h1
  unfold refR at h
  split at h
  · omega
  · rw [if_pos (by decide)] at h
    split at h
    · omega
    · omega
theorem refR_cut {q : Int} {l : List PF} {kd : Int} {nm dst dat : ByteArray} {n : Int} (h : refR q l kd nm dst dat n = 0) (h6 : kd = 6) : 0 ≤ n ∧ n ≤ ((fileP nm l).data.length : Int) := by
  subst h6
  unfold refR at h
  split at h
  · omega
  · rw [if_neg (by decide)] at h
    unfold fileP
    cases e : getP nm l with
    | none => rw [e] at h; simp at h
    | some p =>
      rw [e] at h
      simp only [Option.getD_some] at h ⊢
      split at h
      · omega
      · rename_i hc
        simp at hc
        omega
theorem refR_there {q : Int} {l : List PF} {kd : Int} {nm dst dat : ByteArray} {n : Int} (h : refR q l kd nm dst dat n = 0) (h1 : kd ≠ 1) : ∃ p, getP nm l = some p := by
  unfold refR at h
  split at h
  · omega
  · rw [if_neg (by simpa using h1)] at h
    cases e : getP nm l with
    | none => rw [e] at h; simp at h
    | some p => exact ⟨p, rfl⟩
theorem size_cut (dat : ByteArray) (k : Nat) : (dat.extract 0 k).size ≤ dat.size := by rw [ByteArray.size_extract]; omega
theorem partR_fok {q : Int} {l : List PF} (h : ∀ p, p ∈ l → FOk p) (hq : q ≤ 1048576) (kd : Int) (nm dst dat : ByteArray) (n y : Int) : ∀ p, p ∈ partR q l kd nm dst dat n y → FOk p := by
  unfold partR
  split
  · exact h
  · rename_i hr
    have hr : refR q l kd nm dst dat n = 0 := by simpa using hr
    split
    · rename_i h1
      have := refR_fits hr h1
      exact doneR_fok h _ _ _ _ _ (fun _ => by have := size_cut dat (cutN y dat); omega)
    · split
      · exact h
      · rename_i h1 _
        exact doneR_fok h _ _ _ _ _ (fun e => absurd e h1)
theorem partR_len (q : Int) (l : List PF) (kd : Int) (nm dst dat : ByteArray) (n y : Int) : (partR q l kd nm dst dat n y).length ≤ l.length + 1 := by
  unfold partR
  split
  · omega
  · split
    · exact doneR_len _ _ _ _ _ _
    · split
      · omega
      · exact doneR_len _ _ _ _ _ _
/-- What Do answers. -/
structure DoR where
  l : List PF
  rs : List (Int × Int × Int)
  st : Int
  si : Int
  dn : Bool
  tx : ByteArray
  code : Int
  step : Int
def doR (q st : Int) (l : List PF) (rs : List (Int × Int × Int)) (si : Int) (dn : Bool) (kd : Int) (nm dst dat : ByteArray) (n : Int) : DoR :=
  if dn = true then ⟨l, rs, st, si, true, ⟨#[]⟩, 93, 0⟩
  else match dueR rs si with
    | some (y, z) => ⟨(partR q l kd nm dst dat n y).map (survF z), rs.tail, st + 1, si + 1, true, ⟨#[]⟩, 93, st + 1⟩
    | none => if refR q l kd nm dst dat n ≠ 0 then ⟨l, rs, st + 1, si + 1, false, ⟨#[]⟩, refR q l kd nm dst dat n, st + 1⟩
      else if kd = 3 then ⟨l, rs, st + 1, si + 1, false, peekS nm l, 0, st + 1⟩
      else ⟨doneR l kd nm dst dat n, rs, st + 1, si + 1, false, ⟨#[]⟩, 0, st + 1⟩
end Go.Proofs.YtgafomknpdnfcaaGreatDoor

/- DiskPlays: the document's disk and the program's meet, step by step, plain. -/
namespace Go.Proofs.YtgafomknpdnfcaaGreatDoor
open Go.RowKit

/-- A plan whose first stop has counted so many operations. -/
def stopR (rs : List (Int × Int × Int)) (k : Int) : List (Int × Int × Int) := match rs with
  | [] => []
  | (a, y, z) :: r => (a - k, y, z) :: r
/-- What the first stop has counted. -/
def cnt (S : DS) (si : Int) : Int := if S.runs = true then si else 0
structure Meet (S : DS) (P l : List PF) (rs : List (Int × Int × Int)) (si : Int) : Prop where
  perm : l.Perm P
  rise : Ri l
  nod : (P.map PF.name).Nodup
  fok : ∀ p, p ∈ P → p.dur ≤ p.data.length
  fits : usedP P ≤ S.quota
  quota : 1 ≤ S.quota ∧ S.quota ≤ 1048576
  stops : S.stops = stopR rs (cnt S si)
  ahead : ∀ a y z r, rs = (a, y, z) :: r → cnt S si < a
  least : ∀ s, s ∈ rs → 1 ≤ s.1
  inr : ∀ s, s ∈ rs → inI s.1 ∧ inI s.2.1 ∧ inI s.2.2
  since : 0 ≤ si ∧ si ≤ (S.steps : Int)
  len : P.length ≤ S.steps
theorem Meet.cnt0 {S : DS} {P l : List PF} {rs : List (Int × Int × Int)} {si : Int} (h : Meet S P l rs si) : 0 ≤ cnt S si := by
  unfold cnt; split
  · exact h.since.1
  · omega
theorem Meet.fokL {S : DS} {P l : List PF} {rs : List (Int × Int × Int)} {si : Int} (h : Meet S P l rs si) : ∀ p, p ∈ l → FOk p := by
  intro p hp
  have hp := h.perm.mem_iff.1 hp
  have := mem_used hp
  have := h.fits
  have := h.quota.2
  exact ⟨h.fok p hp, by omega⟩
theorem Meet.usedL {S : DS} {P l : List PF} {rs : List (Int × Int × Int)} {si : Int} (h : Meet S P l rs si) : usedP l ≤ 1048576 := by
  rw [usedP_perm h.perm]
  have := h.fits
  have := h.quota.2
  omega
theorem Meet.ok {S : DS} {P l : List PF} {rs : List (Int × Int × Int)} {si : Int} (h : Meet S P l rs si) : S.ok := by
  intro s hs
  rw [h.stops] at hs
  have h0 := h.cnt0
  cases rs with
  | nil => cases hs
  | cons x r =>
    obtain ⟨a, y, z⟩ := x
    have ha := h.ahead a y z r rfl
    have hi := h.inr (a, y, z) (List.mem_cons_self ..)
    rcases List.mem_cons.1 hs with rfl | hs
    · refine ⟨?_, hi.2⟩
      have := hi.1
      unfold inI at this ⊢
      simp only at this ⊢
      omega
    · exact h.inr s (List.mem_cons_of_mem _ hs)
theorem Meet.due {S : DS} {P l : List PF} {rs : List (Int × Int × Int)} {si : Int} (h : Meet S P l rs si) (hr : S.runs = true) : S.due = dueR rs si := by
  unfold DS.due dueR
  rw [h.stops]
  have hc : cnt S si = si := by unfold cnt; rw [if_pos hr]
  rw [hc]
  cases rs with
  | nil => rfl
  | cons x r =>
    obtain ⟨a, y, z⟩ := x
    have ha := h.ahead a y z r rfl
    rw [hc] at ha
    simp only [stopR]
    by_cases e : a = si + 1
    · rw [if_neg (by omega), if_pos e]
    · rw [if_pos (by omega), if_neg e]
theorem doneR_rise {l : List PF} (h : Ri l) (kd : Int) (nm dst dat : ByteArray) (n : Int) : Ri (doneR l kd nm dst dat n) := by
  unfold doneR
  split
  · exact withP_rise _ _ h
  split
  · exact withP_rise _ _ h
  split
  · exact withP_rise _ _ (withoutP_rise _ h)
  split
  · exact withoutP_rise _ h
  split
  · exact withP_rise _ _ h
  · exact withP_rise _ _ h
theorem partR_rise {l : List PF} (h : Ri l) (q kd : Int) (nm dst dat : ByteArray) (n y : Int) : Ri (partR q l kd nm dst dat n y) := by
  unfold partR
  split
  · exact h
  · split
    · exact doneR_rise h _ _ _ _ _
    · split
      · exact h
      · exact doneR_rise h _ _ _ _ _
/-- What the program does is what the document says. -/
structure OpM (S : DS) (P l : List PF) (kd : Int) (nm dst dat : ByteArray) (n : Int) (code : Int) (G : List PF) (Gp : Int → List PF) : Prop where
  hcode : refR S.quota l kd nm dst dat n = code
  whole : code = 0 → (if kd = 3 then l else doneR l kd nm dst dat n).Perm G
  part : ∀ y, (partR S.quota l kd nm dst dat n y).Perm (if code = 0 then Gp y else P)
  lenG : G.length ≤ P.length + 1
  lenP : ∀ y, (Gp y).length ≤ P.length + 1
theorem Meet.next {S : DS} {P l : List PF} {rs : List (Int × Int × Int)} {si : Int} (h : Meet S P l rs si) {kd : Int} {nm dst dat : ByteArray} {n : Int} {code : Int} {G : List PF} {Gp : Int → List PF} (ho : OpM S P l kd nm dst dat n code G Gp)
    (hnod : ((nextF S code P G Gp).map PF.name).Nodup) (hfok : ∀ p, p ∈ nextF S code P G Gp → p.dur ≤ p.data.length) (hfits : usedP (nextF S code P G Gp) ≤ S.next.quota) :
    Meet S.next (nextF S code P G Gp) (doR S.quota S.steps l rs si (!S.runs) kd nm dst dat n).l (doR S.quota S.steps l rs si (!S.runs) kd nm dst dat n).rs (doR S.quota S.steps l rs si (!S.runs) kd nm dst dat n).si ∧
    (doR S.quota S.steps l rs si (!S.runs) kd nm dst dat n).st = (S.next.steps : Int) ∧ (doR S.quota S.steps l rs si (!S.runs) kd nm dst dat n).dn = !S.next.runs ∧ (doR S.quota S.steps l rs si (!S.runs) kd nm dst dat n).code = errC S code ∧ (doR S.quota S.steps l rs si (!S.runs) kd nm dst dat n).step = errS S := by
  have hlen := nextF_len (S := S) (code := code) (P := P) ho.lenG ho.lenP
  have hnq := (DS.next_quota S).1
  have hq' : 1 ≤ S.next.quota ∧ S.next.quota ≤ 1048576 := by rw [hnq]; exact h.quota
  by_cases hr : S.runs = true
  · have hcnt : cnt S si = si := by unfold cnt; rw [if_pos hr]
    have hdue := h.due hr
    have hst := h.stops
    have hsi := h.since
    rw [hcnt] at hst
    cases hd : dueR rs si with
    | none =>
      rw [hd] at hdue
      have en : S.next = S.step.tick := by unfold DS.next; rw [if_pos hr, hdue]
      have es : S.next.steps = S.steps + 1 := by rw [en, (DS.tick_quota S.step).2]; rfl
      have er : S.next.runs = true := by
        rw [en]; unfold DS.tick; split
        · exact hr
        · split <;> exact hr
      have ef : nextF S code P G Gp = if code = 0 then G else P := by unfold nextF; rw [if_pos hr, hdue]
      have ec : errC S code = code := by unfold errC; rw [if_pos hr, hdue]
      have ee : errS S = (S.steps : Int) + 1 := by unfold errS; rw [if_pos hr]
      have hcn : cnt S.next (si + 1) = si + 1 := by unfold cnt; rw [if_pos er]
      have htick : S.next.stops = stopR rs (si + 1) ∧ ∀ a y z r, rs = (a, y, z) :: r → si + 1 < a := by
        rw [en]
        unfold DS.tick
        have hs' : S.step.stops = stopR rs si := hst
        cases rs with
        | nil => rw [hs']; exact ⟨hs', fun a y z r e => by cases e⟩
        | cons x r =>
          obtain ⟨a, y, z⟩ := x
          have ha := h.ahead a y z r rfl
          rw [hcnt] at ha
          have hne : a ≠ si + 1 := by
            intro e
            unfold dueR at hd
            simp only [if_pos e] at hd
            cases hd
          rw [hs']
          simp only [stopR]
          rw [if_pos (by omega)]
          refine ⟨?_, fun a' y' z' r' e => by cases e; omega⟩
          show (a - si - 1, y, z) :: r = (a - (si + 1), y, z) :: r
          rw [show a - si - 1 = a - (si + 1) by omega]
      have common : ∀ l', l'.Perm (nextF S code P G Gp) → Ri l' → Meet S.next (nextF S code P G Gp) l' rs (si + 1) := fun l' hp hri =>
        ⟨hp, hri, hnod, hfok, hfits, hq', by rw [hcn]; exact htick.1, by rw [hcn]; exact htick.2, h.least, h.inr, by rw [es]; omega, by rw [es]; have := h.len; omega⟩
      unfold doR
      rw [if_neg (by rw [hr]; decide), hd]
      simp only
      by_cases hc : code = 0
      · rw [if_neg (by rw [ho.hcode]; simpa using hc)]
        have hw := ho.whole hc
        rw [ef, if_pos hc] at common ⊢
        by_cases h3 : kd = 3
        · rw [if_pos h3] at hw ⊢
          exact ⟨common l hw h.rise, by rw [es]; simp, by rw [er]; rfl, by rw [ec, hc], by rw [ee]⟩
        · rw [if_neg h3] at hw ⊢
          exact ⟨common _ hw (doneR_rise h.rise _ _ _ _ _), by rw [es]; simp, by rw [er]; rfl, by rw [ec, hc], by rw [ee]⟩
      · rw [if_pos (by rw [ho.hcode]; exact hc)]
        rw [ef, if_neg hc] at common ⊢
        exact ⟨common l h.perm h.rise, by rw [es]; simp, by rw [er]; rfl, by rw [ec, ho.hcode], by rw [ee]⟩
    | some yz =>
      obtain ⟨y, z⟩ := yz
      rw [hd] at hdue
      have en : S.next = { S.step.tick with runs := false } := by unfold DS.next; rw [if_pos hr, hdue]
      have es : S.next.steps = S.steps + 1 := by rw [en]; show S.step.tick.steps = _; rw [(DS.tick_quota S.step).2]; rfl
      have er : S.next.runs = false := by rw [en]
      have ef : nextF S code P G Gp = (if code = 0 then Gp y else P).map (tornP z) := by unfold nextF; rw [if_pos hr, hdue]
      have ec : errC S code = 93 := by unfold errC; rw [if_pos hr, hdue]
      have ee : errS S = (S.steps : Int) + 1 := by unfold errS; rw [if_pos hr]
      have hcn : cnt S.next (si + 1) = 0 := by unfold cnt; rw [if_neg (by rw [er]; decide)]
      have htick : S.next.stops = stopR rs.tail 0 := by
        rw [en]
        show S.step.tick.stops = _
        unfold DS.tick
        have hs' : S.step.stops = stopR rs si := hst
        cases rs with
        | nil => cases hd
        | cons x r =>
          obtain ⟨a, y', z'⟩ := x
          unfold dueR at hd
          simp only at hd
          split at hd
          · rename_i hae
            rw [hs']
            simp only [stopR]
            rw [if_neg (by omega)]
            show r = stopR r 0
            cases r with
            | nil => rfl
            | cons x r =>
              obtain ⟨a, y, z⟩ := x
              simp only [stopR]
              rw [show a - 0 = a by omega]
          · cases hd
      have hfk : ∀ p, p ∈ (if code = 0 then Gp y else P) → p.dur ≤ p.data.length := fun p hp =>
        (partR_fok h.fokL (by have := h.quota.2; omega) kd nm dst dat n y p ((ho.part y).mem_iff.2 hp)).1
      unfold doR
      rw [if_neg (by rw [hr]; decide), hd]
      simp only
      rw [ef] at hnod hfok hfits hlen ⊢
      refine ⟨⟨surv_meet (ho.part y) hfk z, surv_rise (partR_rise h.rise _ _ _ _ _ _ _) z, hnod, hfok, hfits, hq', by rw [hcn]; exact htick, ?_, fun s hs => h.least s (List.mem_of_mem_tail hs), fun s hs => h.inr s (List.mem_of_mem_tail hs), by rw [es]; omega, by rw [es]; have := h.len; omega⟩, by rw [es]; simp, by rw [er]; rfl, by rw [ec], by rw [ee]⟩
      intro a y' z' r e
      rw [hcn]
      have := h.least (a, y', z') (List.mem_of_mem_tail (by rw [e]; exact List.mem_cons_self ..))
      simp only at this
      omega
  · have hrf : S.runs = false := by simpa using hr
    have en : S.next = S := by unfold DS.next; rw [if_neg hr]
    have ef : nextF S code P G Gp = P := by unfold nextF; rw [if_neg hr]
    have ec : errC S code = 93 := by unfold errC; rw [if_neg hr]
    have ee : errS S = 0 := by unfold errS; rw [if_neg hr]
    unfold doR
    rw [if_pos (by rw [hrf]; rfl)]
    rw [en, ef, ec, ee]
    exact ⟨h, rfl, by rw [hrf]; rfl, rfl, rfl⟩
end Go.Proofs.YtgafomknpdnfcaaGreatDoor

/- DiskPlays: each operation of the program is the document's. -/
namespace Go.Proofs.YtgafomknpdnfcaaGreatDoor
open Go.RowKit Go.Lib

theorem refR_look {l P : List PF} (h : l.Perm P) (hn : (P.map PF.name).Nodup) (q kd : Int) (nm dst dat : ByteArray) (n : Int) (hkd : kd = 2 ∨ kd = 3 ∨ kd = 5) : refR q l kd nm dst dat n = lookC P nm := by
  unfold refR lookC
  rw [getP_perm h hn, hasP_get]
  rcases hkd with rfl | rfl | rfl <;> cases isNm nm <;> cases getP nm P <;> simp
theorem refR_ren {l P : List PF} (h : l.Perm P) (hn : (P.map PF.name).Nodup) (q : Int) (nm dst dat : ByteArray) (n : Int) : refR q l 4 nm dst dat n = renC P nm dst := by
  unfold refR renC lookC
  rw [getP_perm h hn, hasP_get]
  cases isNm nm <;> cases isNm dst <;> cases getP nm P <;> simp
theorem refR_tru {l P : List PF} (h : l.Perm P) (hn : (P.map PF.name).Nodup) (q : Int) (nm dst dat : ByteArray) (n : Int) : refR q l 6 nm dst dat n = truC P nm n := by
  unfold refR truC lookC sizeP
  rw [getP_perm h hn, hasP_get]
  have e : P.find? (fun p => decide (p.name = nm)) = getP nm P := rfl
  rw [e]
  cases isNm nm with
  | false => simp
  | true =>
    cases getP nm P with
    | none => simp
    | some p =>
      simp only [Option.isSome_some, if_true, Bool.not_true, Bool.false_or]
      by_cases c : 0 ≤ n ∧ n ≤ (p.data.length : Int)
      · rw [if_pos c]
        have h1 : ¬ n < 0 := by omega
        have h2 : ¬ (p.data.length : Int) < n := by omega
        simp [h1, h2]
      · rw [if_neg c]
        have h1 : n < 0 ∨ (p.data.length : Int) < n := by omega
        simp [h1]
theorem refR_app {l P : List PF} (h : l.Perm P) (S : DS) (nm dst dat : ByteArray) (n : Int) : refR S.quota l 1 nm dst dat n = appCode S P nm dat := by
  unfold refR appCode
  rw [usedP_perm h]
  cases isNm nm with
  | false => simp
  | true =>
    simp only [Bool.not_true, Bool.false_or]
    rw [if_neg (by simp), if_pos (by decide)]
    by_cases c : (S.quota : Int) < (usedP P : Int) + (dat.size : Int)
    · rw [if_pos c, if_pos trivial, if_pos (by omega)]
    · rw [if_neg c, if_pos trivial, if_neg (by omega)]
theorem part_of {S : DS} {P l : List PF} (h : l.Perm P) {kd : Int} {nm dst dat : ByteArray} {n code : Int} {G : List PF} (h1 : kd ≠ 1) (hc : refR S.quota l kd nm dst dat n = code) (hG : code = 0 → kd ≠ 3 → (doneR l kd nm dst dat n).Perm G) (y : Int) :
    (partR S.quota l kd nm dst dat n y).Perm (if code = 0 then (if 1 ≤ y then (if kd = 3 then P else G) else P) else P) := by
  unfold partR
  rw [hc]
  by_cases c : code = 0
  · rw [if_neg (by simpa using c), if_neg h1, if_pos c]
    by_cases hy : 1 ≤ y
    · rw [if_pos hy]
      by_cases h3 : kd = 3
      · rw [if_pos (.inr h3), if_pos h3]; exact h
      · rw [if_neg (by omega), if_neg h3]; exact hG c h3
    · rw [if_neg hy, if_pos (.inl (by omega))]; exact h
  · rw [if_pos (by simpa using c), if_neg c]; exact h
theorem L_cut (dat : ByteArray) (k : Nat) : L (dat.extract 0 k) = (L dat).take k := by
  simp [L]
theorem opM_1 {S : DS} {P l : List PF} {rs : List (Int × Int × Int)} {si : Int} (h : Meet S P l rs si) (nm dst dat : ByteArray) (n : Int) : OpM S P l 1 nm dst dat n (appCode S P nm dat) (growP nm (L dat) P) (fun y => growP nm ((L dat).take (wth y (dat.size : Int)).toNat) P) := by
  have hc := refR_app h.perm S nm dst dat n
  refine ⟨hc, fun _ => ?_, fun y => ?_, growP_len _ _ _, fun y => growP_len _ _ _⟩
  · rw [if_neg (by decide)]
    unfold doneR
    rw [if_pos rfl]
    exact grow_meet h.perm h.nod nm (L dat)
  · unfold partR
    rw [hc]
    by_cases c : appCode S P nm dat = 0
    · rw [if_neg (by simpa using c), if_pos rfl, if_pos c]
      unfold doneR
      rw [if_pos rfl, L_cut]
      have e : cutN y dat = (wth y (dat.size : Int)).toNat := by unfold cutN wth; omega
      rw [e]
      exact grow_meet h.perm h.nod nm _
    · rw [if_pos (by simpa using c), if_neg c]
      exact h.perm
theorem look_get {P : List PF} {nm : ByteArray} (h : lookC P nm = 0) : ∃ p, getP nm P = some p := by
  unfold lookC at h
  rw [hasP_get] at h
  cases e : getP nm P with
  | none => rw [e] at h; split at h <;> simp at h
  | some p => exact ⟨p, rfl⟩
theorem fileP_some {l P : List PF} (h : l.Perm P) (hn : (P.map PF.name).Nodup) {nm : ByteArray} {p : PF} (hp : getP nm P = some p) : fileP nm l = p ∧ p.name = nm := by
  unfold fileP
  rw [getP_perm h hn, hp]
  exact ⟨rfl, getP_name hp⟩
theorem opM_2 {S : DS} {P l : List PF} {rs : List (Int × Int × Int)} {si : Int} (h : Meet S P l rs si) (nm dst dat : ByteArray) (n : Int) : OpM S P l 2 nm dst dat n (lookC P nm) (modP nm syncP P) (fun y => if 1 ≤ y then modP nm syncP P else P) := by
  have hc := refR_look h.perm h.nod S.quota 2 nm dst dat n (.inl rfl)
  have hG : lookC P nm = 0 → (2 : Int) ≠ 3 → (doneR l 2 nm dst dat n).Perm (modP nm syncP P) := fun c _ => by
    obtain ⟨p, hp⟩ := look_get c
    obtain ⟨e1, e2⟩ := fileP_some h.perm h.nod hp
    unfold doneR
    rw [if_neg (by decide), if_pos rfl, e1]
    exact mod_meet h.perm h.nod hp syncP e2
  refine ⟨hc, fun c => ?_, fun y => ?_, modP_len _ _ _, fun y => ite_len (modP_len _ _ _)⟩
  · rw [if_neg (by decide)]; exact hG c (by decide)
  · have := part_of h.perm (by decide) hc hG y
    rw [if_neg (by decide : ¬ (2 : Int) = 3)] at this
    exact this
theorem opM_3 {S : DS} {P l : List PF} {rs : List (Int × Int × Int)} {si : Int} (h : Meet S P l rs si) (nm dst dat : ByteArray) (n : Int) : OpM S P l 3 nm dst dat n (lookC P nm) P (fun _ => P) := by
  have hc := refR_look h.perm h.nod S.quota 3 nm dst dat n (.inr (.inl rfl))
  refine ⟨hc, fun _ => by rw [if_pos rfl]; exact h.perm, fun y => ?_, Nat.le_succ _, fun _ => Nat.le_succ _⟩
  have := part_of (G := P) h.perm (by decide) hc (fun _ e => absurd rfl e) y
  rw [if_pos rfl] at this
  simpa using this
theorem opM_4 {S : DS} {P l : List PF} {rs : List (Int × Int × Int)} {si : Int} (h : Meet S P l rs si) (nm dst dat : ByteArray) (n : Int) : OpM S P l 4 nm dst dat n (renC P nm dst) (moveP nm dst P) (fun y => if 1 ≤ y then moveP nm dst P else P) := by
  have hc := refR_ren h.perm h.nod S.quota nm dst dat n
  have hG : renC P nm dst = 0 → (4 : Int) ≠ 3 → (doneR l 4 nm dst dat n).Perm (moveP nm dst P) := fun c _ => by
    have c' : lookC P nm = 0 := by
      unfold renC at c
      split at c
      · exact c
      · cases c
    obtain ⟨p, hp⟩ := look_get c'
    obtain ⟨e1, e2⟩ := fileP_some h.perm h.nod hp
    unfold doneR
    rw [if_neg (by decide), if_neg (by decide), if_pos rfl, e1]
    exact move_meet h.perm h.nod hp dst
  refine ⟨hc, fun c => ?_, fun y => ?_, moveP_len _ _ _, fun y => ite_len (moveP_len _ _ _)⟩
  · rw [if_neg (by decide)]; exact hG c (by decide)
  · have := part_of h.perm (by decide) hc hG y
    rw [if_neg (by decide : ¬ (4 : Int) = 3)] at this
    exact this
theorem opM_5 {S : DS} {P l : List PF} {rs : List (Int × Int × Int)} {si : Int} (h : Meet S P l rs si) (nm dst dat : ByteArray) (n : Int) : OpM S P l 5 nm dst dat n (lookC P nm) (dropP nm P) (fun y => if 1 ≤ y then dropP nm P else P) := by
  have hc := refR_look h.perm h.nod S.quota 5 nm dst dat n (.inr (.inr rfl))
  have hG : lookC P nm = 0 → (5 : Int) ≠ 3 → (doneR l 5 nm dst dat n).Perm (dropP nm P) := fun c _ => by
    unfold doneR
    rw [if_neg (by decide), if_neg (by decide), if_neg (by decide), if_pos rfl]
    exact withoutP_perm nm h.perm
  refine ⟨hc, fun c => ?_, fun y => ?_, dropP_len _ _, fun y => ite_len (dropP_len _ _)⟩
  · rw [if_neg (by decide)]; exact hG c (by decide)
  · have := part_of h.perm (by decide) hc hG y
    rw [if_neg (by decide : ¬ (5 : Int) = 3)] at this
    exact this
theorem opM_6 {S : DS} {P l : List PF} {rs : List (Int × Int × Int)} {si : Int} (h : Meet S P l rs si) (nm dst dat : ByteArray) (n : Int) : OpM S P l 6 nm dst dat n (truC P nm n) (modP nm (cutF n.toNat) P) (fun y => if 1 ≤ y then modP nm (cutF n.toNat) P else P) := by
  have hc := refR_tru h.perm h.nod S.quota nm dst dat n
  have hG : truC P nm n = 0 → (6 : Int) ≠ 3 → (doneR l 6 nm dst dat n).Perm (modP nm (cutF n.toNat) P) := fun c _ => by
    have c' : lookC P nm = 0 := by
      unfold truC at c
      split at c
      · assumption
      · exact c
    obtain ⟨p, hp⟩ := look_get c'
    obtain ⟨e1, e2⟩ := fileP_some h.perm h.nod hp
    unfold doneR
    rw [if_neg (by decide), if_neg (by decide), if_neg (by decide), if_neg (by decide), if_pos rfl, e1]
    exact mod_meet h.perm h.nod hp (cutF n.toNat) e2
  refine ⟨hc, fun c => ?_, fun y => ?_, modP_len _ _ _, fun y => ite_len (modP_len _ _ _)⟩
  · rw [if_neg (by decide)]; exact hG c (by decide)
  · have := part_of h.perm (by decide) hc hG y
    rw [if_neg (by decide : ¬ (6 : Int) = 3)] at this
    exact this
theorem Dk.fok {A : Whys} {w0 w : World} {d : Nat} {S : DS} {P : List PF} {K : List (Nat × Obj)} (h : Dk A w0 d S P K w) : ∀ p, p ∈ P → p.dur ≤ p.data.length := by
  obtain ⟨m, sv, clk, F, hD, rfl, _⟩ := h
  intro p hp
  obtain ⟨f, hf, rfl⟩ := List.mem_map.1 hp
  exact (hD.files f hf).dur
/-- What Read tells. -/
theorem read_meet {S : DS} {P l : List PF} {rs : List (Int × Int × Int)} {si : Int} (h : Meet S P l rs si) (nm dst dat : ByteArray) (n : Int) : (doR S.quota S.steps l rs si (!S.runs) 3 nm dst dat n).tx = readT S P nm := by
  unfold doR readT
  by_cases hr : S.runs = true
  · rw [if_neg (by rw [hr]; decide), h.due hr]
    cases hd : dueR rs si with
    | some yz => simp
    | none =>
      simp only
      rw [refR_look h.perm h.nod S.quota 3 nm dst dat n (.inr (.inl rfl))]
      by_cases c : lookC P nm = 0
      · rw [if_neg (by simpa using c), if_pos trivial, if_pos ⟨hr, trivial, c⟩]
        unfold peekS dataP
        rw [getP_perm h.perm h.nod]
        have e : P.find? (fun p => decide (p.name = nm)) = getP nm P := rfl
        rw [e]
        obtain ⟨p, hp⟩ := look_get c
        rw [hp]
      · rw [if_pos c, if_neg (fun x => c x.2.2)]
  · rw [if_pos (by simpa using hr), if_neg (fun x => hr x.1)]
theorem other_meet (q st : Int) (l : List PF) (rs : List (Int × Int × Int)) (si : Int) (dn : Bool) (kd : Int) (h3 : kd ≠ 3) (nm dst dat : ByteArray) (n : Int) : (doR q st l rs si dn kd nm dst dat n).tx = ⟨#[]⟩ := by
  unfold doR
  split
  · rfl
  · split
    · rfl
    · split
      · rfl
      · rfl
/-- The operations' names. -/
def wordM (k : Int) : ByteArray := if k = 1 then sApp else if k = 2 then sSync else if k = 3 then sRead else if k = 4 then sRename else if k = 5 then sRemove else sTrunc
/-- Behind one operation that the document has done too. -/
def DoneM (A : Whys) (w0 : World) (d : Nat) (S : DS) (l : List PF) (rs : List (Int × Int × Int)) (si : Int) (q : ActR) (K : List (Nat × Obj)) (s : ByteArray) (r : Value) (w' : World) : Prop :=
  ∃ P' K', Dk A w0 d S.next P' K' w' ∧ ErrK A (wordM q.kind) q.name (doR S.quota S.steps l rs si (!S.runs) q.kind q.name q.dest q.data q.n).step (doR S.quota S.steps l rs si (!S.runs) q.kind q.name q.dest q.data q.n).code r K K' ∧ s = (doR S.quota S.steps l rs si (!S.runs) q.kind q.name q.dest q.data q.n).tx ∧
    Meet S.next P' (doR S.quota S.steps l rs si (!S.runs) q.kind q.name q.dest q.data q.n).l (doR S.quota S.steps l rs si (!S.runs) q.kind q.name q.dest q.data q.n).rs (doR S.quota S.steps l rs si (!S.runs) q.kind q.name q.dest q.data q.n).si ∧
    (doR S.quota S.steps l rs si (!S.runs) q.kind q.name q.dest q.data q.n).st = (S.next.steps : Int) ∧ (doR S.quota S.steps l rs si (!S.runs) q.kind q.name q.dest q.data q.n).dn = !S.next.runs
theorem doneM_of {A : Whys} {w0 w' : World} {d : Nat} {S : DS} {P l : List PF} {rs : List (Int × Int × Int)} {si : Int} (hM : Meet S P l rs si) {q : ActR} {K K' : List (Nat × Obj)} {s : ByteArray} {r : Value} {code : Int} {G : List PF} {Gp : Int → List PF} (ho : OpM S P l q.kind q.name q.dest q.data q.n code G Gp)
    (hD : Dk A w0 d S.next (nextF S code P G Gp) K' w') (hE : ErrK A (wordM q.kind) q.name (errS S) (errC S code) r K K') (hs : s = (doR S.quota S.steps l rs si (!S.runs) q.kind q.name q.dest q.data q.n).tx) : DoneM A w0 d S l rs si q K s r w' := by
  obtain ⟨h1, h2, h3, h4, h5⟩ := hM.next ho hD.names hD.fok hD.fits
  exact ⟨_, K', hD, by rw [h4, h5]; exact hE, hs, h1, h2, h3⟩
end Go.Proofs.YtgafomknpdnfcaaGreatDoor
