/- frame, plain: rows of frames, cut, spoilt, with something behind. -/
import Derived.Test.YtllpejkfbgpobaaF10p
namespace Go.Proofs.Ytllpejkfbgpobaa

def laid (G : List Fr) : List UInt8 := G.flatMap fun f => frm f.kind f.num f.body
theorem laid_cons (f : Fr) (G : List Fr) : laid (f :: G) = frm f.kind f.num f.body ++ laid G := by simp [laid]
theorem laid_append (G H : List Fr) : laid (G ++ H) = laid G ++ laid H := by simp [laid]
theorem laid_nil : laid [] = [] := rfl
/-- Frames one behind the other from a place on, with numbers that rise one by one. -/
def Rw : Nat → List Fr → Prop
  | _, [] => True
  | i, f :: G => okF f.kind f.num f.body ∧ f.at' = i ∧ (∀ g, G.head? = some g → g.num = f.num + 1) ∧ Rw f.ends G
def lastNum : Nat → List Fr → Nat
  | a, [] => a
  | _, f :: G => lastNum f.num G
theorem frAt_frm {f : Fr} (p s : List UInt8) (hok : okF f.kind f.num f.body) (hat : f.at' = p.length) : frAt (p ++ (frm f.kind f.num f.body ++ s)) p.length = f := by
  obtain ⟨h1, h2, h3, h4⟩ := hok
  obtain ⟨_, g1, g2, _, _, _, _, _, gb⟩ := frm_bits f.kind f.num f.body s (by omega) (by omega) (by omega)
  have hd : (p ++ (frm f.kind f.num f.body ++ s)).drop p.length = frm f.kind f.num f.body ++ s := by simp
  unfold frAt
  rw [hd, gb, ← bt_drop, ← w4_drop, hd, g1, g2, ← hat]
theorem scan_rw : ∀ (G : List Fr) (p t : List UInt8) (a : Nat), Rw p.length G → (0 < p.length → ∀ f, G.head? = some f → f.num = a + 1) →
    scan (p ++ (laid G ++ t)) p.length a = G ++ scan (p ++ (laid G ++ t)) (p ++ laid G).length (lastNum a G) := by
  intro G
  induction G with
  | nil => intro p t a _ _; simp [laid, lastNum]
  | cons f G ih =>
    intro p t a hr hn
    obtain ⟨h1, h2, h3, h4⟩ := hr
    have e : p ++ (laid (f :: G) ++ t) = p ++ (frm f.kind f.num f.body ++ (laid G ++ t)) := by rw [laid_cons, List.append_assoc]
    have e2 : p ++ (laid (f :: G) ++ t) = (p ++ frm f.kind f.num f.body) ++ (laid G ++ t) := by rw [e, List.append_assoc]
    have hd : (p ++ (laid (f :: G) ++ t)).drop p.length = frm f.kind f.num f.body ++ (laid G ++ t) := by rw [e]; simp
    have hF : isF ((p ++ (laid (f :: G) ++ t)).drop p.length) := by rw [hd]; exact isF_frm h1 _
    have hfr : frAt (p ++ (laid (f :: G) ++ t)) p.length = f := by rw [e]; exact frAt_frm p _ h1 h2
    have hw : w4 (p ++ (laid (f :: G) ++ t)) (p.length + 2) = f.num := by
      have := congrArg Fr.num hfr
      exact this
    have hz : f.ends = (p ++ frm f.kind f.num f.body).length := by rw [List.length_append, frm_length]; unfold Fr.ends; omega
    rw [scan_on hF (fun h0 => by rw [hw]; exact hn h0 f rfl), hfr, hw, hz]
    rw [hz] at h4
    have := ih (p ++ frm f.kind f.num f.body) t f.num h4 (fun _ g hg => h3 g hg)
    rw [e2, this]
    simp [laid_cons, lastNum, List.append_assoc]
theorem isF_nil : ¬ isF [] := fun h => by have := h.1; simp at this
/-- A frame that is cut is none. -/
theorem cut_none {k n : Nat} {b : List UInt8} (hok : okF k n b) (s : List UInt8) {r : Nat} (hr : r < b.length + 18) : ¬ isF ((frm k n b ++ s).take r) := by
  intro h
  obtain ⟨h1, h2, h3, h4⟩ := hok
  obtain ⟨_, _, _, g6, _⟩ := frm_bits k n b s (by omega) (by omega) (by omega)
  have hl := h.1
  have h7 := h.2.2.2.2.2.2.1
  have hlen : ((frm k n b ++ s).take r).length ≤ r := by simp; omega
  rw [w4_take _ _ _ (by omega), g6] at h7
  omega
theorem rw_length : ∀ (G : List Fr) (i : Nat), Rw i G → ∀ j f, G[j]? = some f → f.at' = i + (laid (G.take j)).length ∧ f.ends = i + (laid (G.take (j + 1))).length ∧ okF f.kind f.num f.body := by
  intro G
  induction G with
  | nil => intro i _ j f h; simp at h
  | cons g G ih =>
    intro i hr j f hf
    obtain ⟨h1, h2, h3, h4⟩ := hr
    have hz : g.ends = i + (frm g.kind g.num g.body).length := by rw [frm_length]; unfold Fr.ends; omega
    cases j with
    | zero =>
      simp at hf
      subst hf
      refine ⟨by simp [laid, h2], ?_, h1⟩
      simp [laid, hz]
    | succ j =>
      rw [List.getElem?_cons_succ] at hf
      obtain ⟨q1, q2, q3⟩ := ih _ h4 j f hf
      rw [List.take_succ_cons, List.take_succ_cons, laid_cons, laid_cons, List.length_append, List.length_append]
      exact ⟨by omega, by omega, q3⟩
/-- Cut anywhere: the frames that lie wholly ahead. -/
theorem scan_cut {G : List Fr} (hr : Rw 0 G) {c n : Nat} (hle : (laid (G.take n)).length ≤ c) (hgt : ∀ f, G[n]? = some f → c < f.ends) : scan ((laid G).take c) 0 0 = G.take n := by
  have e0 : laid G = laid (G.take n) ++ laid (G.drop n) := by rw [← laid_append, List.take_append_drop]
  have hrt : ∀ (G : List Fr) (i n : Nat), Rw i G → Rw i (G.take n) := by
    intro G
    induction G with
    | nil => intro i n _; simp [Rw]
    | cons g G ih =>
      intro i n h
      cases n with
      | zero => simp [Rw]
      | succ n =>
        obtain ⟨h1, h2, h3, h4⟩ := h
        rw [List.take_succ_cons]
        refine ⟨h1, h2, fun q hq => h3 q ?_, ih _ _ h4⟩
        cases n with
        | zero => simp at hq
        | succ n => cases G with
          | nil => simp at hq
          | cons a G => simpa using hq
  have e1 : (laid G).take c = laid (G.take n) ++ (laid (G.drop n)).take (c - (laid (G.take n)).length) := by
    rw [e0, List.take_append, List.take_of_length_le hle]
  rw [e1]
  have := scan_rw (G.take n) [] ((laid (G.drop n)).take (c - (laid (G.take n)).length)) 0 (hrt G 0 n hr) (fun h => absurd h (Nat.lt_irrefl 0))
  simp only [List.nil_append, List.length_nil] at this
  rw [this, scan_off, List.append_nil]
  rintro ⟨hF, _⟩
  have hd : (laid (G.take n) ++ (laid (G.drop n)).take (c - (laid (G.take n)).length)).drop (laid (G.take n)).length = (laid (G.drop n)).take (c - (laid (G.take n)).length) := by simp
  rw [hd] at hF
  rcases Nat.lt_or_ge n G.length with hlt | hge
  · obtain ⟨f, hf⟩ : ∃ f, G[n]? = some f := ⟨_, List.getElem?_eq_getElem hlt⟩
    have hdr : G.drop n = f :: G.drop (n + 1) := by
      rw [List.drop_eq_getElem_cons hlt]
      congr 1
      have := List.getElem?_eq_getElem hlt
      rw [hf] at this
      exact (Option.some.inj this).symm
    obtain ⟨q1, _, q3⟩ := rw_length G 0 hr n f hf
    have hc := hgt f hf
    unfold Fr.ends at hc
    rw [hdr, laid_cons] at hF
    exact cut_none q3 _ (by omega) hF
  · rw [List.drop_eq_nil_of_le hge, laid_nil, List.take_nil] at hF
    exact isF_nil hF
end Go.Proofs.Ytllpejkfbgpobaa
