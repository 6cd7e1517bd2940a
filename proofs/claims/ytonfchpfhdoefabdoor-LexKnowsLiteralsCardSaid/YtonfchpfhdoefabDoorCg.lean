/- lex, plain: a scanner's rounds, by what stands there; quotes in a line that is scanned. -/
import Derived.Test.YtonfchpfhdoefabDoorBw
namespace Go.Proofs.YtonfchpfhdoefabDoor
open Go.RowKit

theorem sc_step {l : List UInt8} {s : Sc} (hI : SInv l.length s) (hf : s.fault l = 0) :
    (bt l s.pos = 32 ∧ s.pause l = true ∧ s.step l = .go { s with pos := s.pos + 1 }) ∨
    (openerB (bt l s.pos) = true ∧ s.begun < 512 ∧ s.under.length < 12 ∧ s.step l = .go { s with pos := s.pos + 1, begun := s.begun + 1, under := s.under ++ [s.top], top := ⟨kindC (bt l s.pos), s.word l, []⟩ }) ∨
    (closerB (bt l s.pos) = true ∧ s.top.kind = kindC (bt l s.pos) ∧ ∃ u f, s.under = u ++ [f] ∧ s.step l = .go { s with pos := s.pos + 1, under := u, top := { f with kids := f.kids ++ [Wd.mk s.top.kind (S []) s.top.kids s.top.glued] } }) ∨
    (bt l s.pos = 123 ∧ annB (l.drop s.pos) = true ∧ s.begun < 512 ∧ ∃ x r, s.lits = x :: r ∧ x.size = annN (l.drop s.pos) ∧ s.step l = .go ({ s with pos := s.pos + annS (l.drop s.pos), begun := s.begun + 1, lits := r }.add (Wd.mk 3 x [] (s.word l)))) ∨
    (bt l s.pos = 34 ∧ s.begun < 512 ∧ s.step l = match quo (l.drop (s.pos + 1)) false [] 0 with
      | .bad => .err 31
      | .cut => .cut { s with pos := l.length, begun := s.begun + 1 }
      | .done t n => .go ({ s with pos := s.pos + 1 + n, begun := s.begun + 1 }.add (Wd.mk 2 (S t) [] (s.word l)))) ∨
    (wordC (bt l s.pos) = true ∧ s.begun < 512 ∧ s.step l = .go ({ s with pos := s.pos + (atomL l s.pos).length, begun := s.begun + 1 }.add (Wd.mk 1 (S (atomL l s.pos)) [] (s.word l)))) := by
  rw [Sc.fault_eq] at hf
  obtain ⟨n1, n2, n3, n4, n5⟩ := no_fault hf
  have hb512 : begB l s.pos = true → s.begun < 512 := fun h => by
    have := n1 h
    rw [beq_eq_false_iff_ne] at this
    have := hI.begun
    omega
  have hbeg : begB l s.pos = if bt l s.pos == 123 then annB (l.drop s.pos) else bt l s.pos == 34 || openerB (bt l s.pos) || wordC (bt l s.pos) := rfl
  rcases step_class (bt l s.pos) with ⟨h1, _, h2, h3⟩ | ⟨h1, _, h2, h3, h4, h5, _⟩ | ⟨h1, _, h2, h3, _⟩ | ⟨h1, _, h2, h3, _, _, _, _, h4, _⟩ | ⟨h1, _, h2, h3, _, _, _, _, h4, _, h5, _⟩ | ⟨h1, _, h2, h3, _, _, _, _, h4, _, h5, _⟩
  · left
    have hc : bt l s.pos = 32 := by simpa using h1
    have hnb : begB l s.pos = false := by rw [hbeg, hc]; rfl
    refine ⟨hc, ?_, ?_⟩
    · rcases n5 with h | h | h
      · rw [hnb] at h; cases h
      · rw [h3] at h; cases h
      · exact h.2
    · unfold Sc.step
      simp only [h1, if_true]
  · right; left
    have hb : begB l s.pos = true := by rw [hbeg, h4]; exact h5
    refine ⟨h2, hb512 hb, ?_, ?_⟩
    · have := n2 h2
      rw [decide_eq_false_iff_not] at this
      omega
    · unfold Sc.step
      simp only [h1, h2, if_true, Bool.false_eq_true, if_false]
  · right; right; left
    have hk : s.top.kind = kindC (bt l s.pos) := by simpa using n3 h3
    obtain ⟨u, f, hu⟩ := hI.open hk
    refine ⟨h3, hk, u, f, hu, ?_⟩
    unfold Sc.step
    simp only [h1, h2, h3, if_true, Bool.false_eq_true, if_false, hu, List.getLast?_concat, List.dropLast_concat]
  · right; right; right; left
    have hc : bt l s.pos = 123 := by simpa using h4
    have hB : annB (l.drop s.pos) = true := by
      rcases n5 with h | h | h
      · rw [hbeg, h4] at h; exact h
      · rw [h3] at h; cases h
      · rw [h1] at h; cases h.1
    have hb : begB l s.pos = true := by rw [hbeg, h4]; exact hB
    have hfit := n4 h4 hb
    cases hl : s.lits with
    | nil => rw [hl] at hfit; cases hfit
    | cons x r =>
      rw [hl] at hfit
      refine ⟨hc, hB, hb512 hb, x, r, rfl, by simpa [fitB] using hfit, ?_⟩
      unfold Sc.step
      simp only [h1, h2, h3, h4, if_true, Bool.false_eq_true, if_false, hl, List.tail_cons, List.headD_cons]
  · right; right; right; right; left
    have hc : bt l s.pos = 34 := by simpa using h5
    have hb : begB l s.pos = true := by rw [hbeg, h4, h5]; rfl
    refine ⟨hc, hb512 hb, ?_⟩
    unfold Sc.step
    simp only [h1, h2, h3, h4, h5, if_true, Bool.false_eq_true, if_false]
    rfl
  · right; right; right; right; right
    have hw : begB l s.pos = true := by
      rcases n5 with h | h | h
      · exact h
      · rw [h3] at h; cases h
      · rw [h1] at h; cases h.1
    have hb := hb512 hw
    rw [hbeg, h4, h5, h2] at hw
    refine ⟨by simpa using hw, hb, ?_⟩
    unfold Sc.step
    simp only [h1, h2, h3, h4, h5, Bool.false_eq_true, if_false]
/-- Bytes that leave quotes alone. -/
theorem qst_plain : ∀ (a : List UInt8), (∀ x ∈ a, x ≠ 34) → qst a 0 = 0
  | [], _ => rfl
  | c :: r, h => by
    have hc : ¬ c = 34 := h c (by simp)
    show qst r (qstep 0 c) = 0
    rw [show qstep 0 c = 0 by simp [qstep, hc]]
    exact qst_plain r (fun x hx => h x (by simp [hx]))
/-- Quotes that end are behind themselves. -/
theorem quo_done : ∀ (r : List UInt8) (esc : Bool) (acc : List UInt8) (n : Nat) (t : List UInt8) (m : Nat), quo r esc acc n = .done t m → ∃ k, m = n + k ∧ 0 < k ∧ k ≤ r.length ∧ qst (r.take k) (if esc then 2 else 1) = 0
  | [], _, _, _, _, _, h => by simp [quo] at h
  | c :: r, esc, acc, n, t, m, h => by
    rw [quo] at h
    split at h
    · cases h
    · rename_i hq
      simp only [Bool.not_eq_true', Bool.not_eq_false] at hq
      split at h
      · rename_i h1
        rw [Bool.and_eq_true, beq_iff_eq] at h1
        injection h with _ hm
        obtain ⟨rfl, he⟩ := h1
        have he : esc = false := by simpa using he
        subst he
        exact ⟨1, hm.symm, by omega, by simp, rfl⟩
      · rename_i h1
        split at h
        · rename_i h2
          rw [Bool.and_eq_true, beq_iff_eq] at h2
          obtain ⟨rfl, he⟩ := h2
          have he : esc = false := by simpa using he
          subst he
          obtain ⟨k, hk, hk0, hkl, hq2⟩ := quo_done r true acc (n + 1) t m h
          refine ⟨k + 1, by omega, by omega, by simp; omega, ?_⟩
          rw [List.take_succ_cons]
          exact hq2
        · rename_i h2
          obtain ⟨k, hk, hk0, hkl, hq2⟩ := quo_done r false (acc ++ [c]) (n + 1) t m h
          refine ⟨k + 1, by omega, by omega, by simp; omega, ?_⟩
          rw [List.take_succ_cons]
          show qst (r.take k) (qstep _ c) = 0
          cases esc with
          | true => exact hq2
          | false =>
            have c1 : ¬ c = 34 := fun e => h1 (by rw [e]; rfl)
            have c2 : ¬ c = 92 := fun e => h2 (by rw [e]; rfl)
            rw [show qstep (if false = true then 2 else 1) c = 1 by simp [qstep, c1, c2]]
            exact hq2
theorem take_more (l : List UInt8) (p k : Nat) : l.take (p + k) = l.take p ++ (l.drop p).take k := by rw [List.take_add]
theorem annS_plain {l : List UInt8} (h1 : l.head? = some 123) (hB : annB l = true) : ∀ x ∈ l.take (annS l), x ≠ 34 := by
  obtain ⟨r, rfl⟩ : ∃ r, l = 123 :: r := by
    cases l with
    | nil => cases h1
    | cons a r => simp at h1; exact ⟨r, by rw [h1]⟩
  have hB2 := hB
  unfold annB at hB2
  rw [Bool.and_eq_true, beq_iff_eq] at hB2
  have hr : r = annD (123 :: r) ++ annR (123 :: r) := by
    have := tw_app isDig r
    unfold annR annD
    simp only [List.drop_succ_cons, List.drop_zero, Nat.add_comm 1]
    exact this
  have hda : ∀ x ∈ annD (123 :: r), isDig x = true := by
    unfold annD
    exact tw_all _
  have key : ∃ p q, 123 :: r = 123 :: (annD (123 :: r) ++ p ++ [125]) ++ q ∧ (p = [] ∨ p = [43]) ∧ annE (123 :: r) = 125 :: q := by
    have hE := hB2.2
    cases hee : annE (123 :: r) with
    | nil => rw [hee] at hE; cases hE
    | cons a q =>
      rw [hee] at hE
      simp at hE
      subst hE
      have hee2 := hee
      unfold annE at hee
      split at hee
      · rename_i hp
        unfold annP at hp
        rw [beq_iff_eq] at hp
        cases hR : annR (123 :: r) with
        | nil => rw [hR] at hp; cases hp
        | cons b z =>
          rw [hR] at hp hee hr
          simp at hp hee
          subst hp
          subst hee
          exact ⟨[43], q, by rw [List.cons_append]; congr 1; rw [hr]; simp [← hr], .inr rfl, rfl⟩
      · rw [hee] at hr
        exact ⟨[], q, by rw [List.cons_append]; congr 1; conv => lhs; rw [hr]
                         simp, .inl rfl, rfl⟩
  obtain ⟨p, q, hl, hp, hee⟩ := key
  have hS : annS (123 :: r) = (123 :: (annD (123 :: r) ++ p ++ [125])).length := by
    unfold annS
    rw [if_pos hB, hee]
    have := congrArg List.length hl
    simp only [List.length_append, List.length_cons, List.length_nil] at this ⊢
    omega
  rw [hS]
  intro x hx
  generalize annD (123 :: r) = d at *
  rw [hl, List.take_left] at hx
  simp only [List.mem_cons, List.mem_append] at hx
  rintro rfl
  rcases hx with hx | (hx | hx) | hx | hx
  · exact absurd hx (by decide)
  · exact absurd (hda _ hx) (by decide)
  · rcases hp with rfl | rfl
    · cases hx
    · simp at hx
  · exact absurd hx (by decide)
  · cases hx
theorem annS_fit (l : List UInt8) (hB : annB l = true) : annS l ≤ l.length ∧ 0 < annS l := by
  unfold annS
  rw [if_pos hB]
  unfold annB at hB
  rw [Bool.and_eq_true, beq_iff_eq] at hB
  have hE := annE_len l
  cases he : annE l with
  | nil => rw [he] at hB; cases hB.2
  | cons a q => rw [he] at hE; simp only [List.length_cons] at hE ⊢; omega
theorem atomL_pos {l : List UInt8} {k : Nat} (hk : k < l.length) (h : wordC (bt l k) = true) : 0 < (atomL l k).length ∧ k + (atomL l k).length ≤ l.length := by
  unfold atomL
  have h1 := tw_le wordC (l.drop k)
  rw [List.length_drop] at h1
  refine ⟨?_, by omega⟩
  rw [List.drop_eq_getElem_cons hk, List.takeWhile_cons_of_pos]
  · simp
  · unfold bt at h
    rw [List.getElem?_eq_getElem hk] at h
    exact h
theorem tw_front (p : UInt8 → Bool) (r : List UInt8) : r.take (r.takeWhile p).length = r.takeWhile p := by
  induction r with
  | nil => rfl
  | cons a r ih =>
    cases hp : p a with
    | false => rw [List.takeWhile_cons_of_neg (by simp [hp])]; rfl
    | true => rw [List.takeWhile_cons_of_pos hp]; simpa using ih
theorem word_ne34 {c : UInt8} (h : wordC c = true) : c ≠ 34 := by
  rintro rfl
  exact absurd h (by decide)
theorem one_at (l : List UInt8) (p : Nat) (hp : p < l.length) : l.take (p + 1) = l.take p ++ [bt l p] := by
  rw [← List.take_append_getElem hp]
  unfold bt
  rw [List.getElem?_eq_getElem hp]
  rfl
/-- A line that is scanned ends outside of quotes. -/
theorem run_out (l : List UInt8) : ∀ (n : Nat) (s : Sc), SInv l.length s → qst (l.take s.pos) 0 = 0 → l.length - s.pos ≤ n → (s.run l n).1 = 0 → qst l 0 = 0
  | 0, s, hI, hq, hn, _ => by rw [List.take_of_length_le (by omega)] at hq; exact hq
  | n + 1, s, hI, hq, hn, hr => by
    by_cases hp : s.pos < l.length
    · by_cases hf : s.fault l = 0
      · have step1 : ∀ c, bt l s.pos = c → c ≠ 34 → qst (l.take (s.pos + 1)) 0 = 0 := fun c hc h34 => by
          rw [one_at l s.pos hp, qst_append, hq, hc]
          show qstep 0 c = 0
          simp [qstep, h34]
        rcases sc_step hI hf with ⟨hc, _, hs⟩ | ⟨hc, hb, hu, hs⟩ | ⟨hc, hk, u, f, hu, hs⟩ | ⟨hc, hB, hb, x, r, hl, hx, hs⟩ | ⟨hc, hb, hs⟩ | ⟨hc, hb, hs⟩
        · rw [Sc.run_go rfl hp hf hs |>.symm] at hr
          exact run_out l n _ (hI.at (s.pos + 1) hp) (step1 _ hc (by decide)) (by show l.length - (s.pos + 1) ≤ n; omega) hr
        · rw [Sc.run_go rfl hp hf hs |>.symm] at hr
          exact run_out l n _ (hI.push (s.pos + 1) hp _ _ hb hu) (step1 _ rfl (by rintro e; rw [e] at hc; exact absurd hc (by decide))) (by show l.length - (s.pos + 1) ≤ n; omega) hr
        · rw [Sc.run_go rfl hp hf hs |>.symm] at hr
          exact run_out l n _ (hI.pop (s.pos + 1) hp u f hu _) (step1 _ rfl (by rintro e; rw [e] at hc; exact absurd hc (by decide))) (by show l.length - (s.pos + 1) ≤ n; omega) hr
        · rw [Sc.run_go rfl hp hf hs |>.symm] at hr
          have hle := annS_fit (l.drop s.pos) hB
          rw [List.length_drop] at hle
          refine run_out l n _ (hI.word (s.pos + annS (l.drop s.pos)) (by omega) r _ hb) ?_ (by show l.length - (s.pos + annS (l.drop s.pos)) ≤ n; omega) hr
          show qst (l.take (s.pos + annS (l.drop s.pos))) 0 = 0
          rw [take_more, qst_append, hq]
          exact qst_plain _ (annS_plain (by rw [List.drop_eq_getElem_cons hp]; unfold bt at hc; rw [List.getElem?_eq_getElem hp] at hc; exact congrArg some hc) hB)
        · cases hqu : quo (l.drop (s.pos + 1)) false [] 0 with
          | bad =>
            rw [hqu] at hs
            rw [Sc.run_err rfl hp hf hs] at hr
            exact absurd hr (by decide)
          | cut =>
            rw [hqu] at hs
            rw [Sc.run_cut rfl hp hf hs] at hr
            have hr2 : ({ s with pos := l.length, begun := s.begun + 1 } : Sc).endE l true = 0 := hr
            unfold Sc.endE at hr2
            split at hr2
            · exact absurd hr2 (by decide)
            · rw [if_pos rfl] at hr2
              exact absurd hr2 (by decide)
          | done t m =>
            rw [hqu] at hs
            obtain ⟨k, hk, hk0, hkl, hq2⟩ := quo_done _ _ _ _ _ _ hqu
            rw [List.length_drop] at hkl
            rw [Sc.run_go rfl hp hf hs |>.symm] at hr
            refine run_out l n _ (hI.word (s.pos + 1 + m) (by omega) s.lits _ hb) ?_ (by show l.length - (s.pos + 1 + m) ≤ n; omega) hr
            show qst (l.take (s.pos + 1 + m)) 0 = 0
            rw [take_more, qst_append, one_at l s.pos hp, qst_append, hq, hc]
            rw [show m = k by omega]
            exact hq2
        · rw [Sc.run_go rfl hp hf hs |>.symm] at hr
          obtain ⟨ha0, hal⟩ := atomL_pos hp hc
          refine run_out l n _ (hI.word (s.pos + (atomL l s.pos).length) (by omega) s.lits _ hb) ?_ (by show l.length - (s.pos + (atomL l s.pos).length) ≤ n; omega) hr
          show qst (l.take (s.pos + (atomL l s.pos).length)) 0 = 0
          rw [take_more, qst_append, hq]
          refine qst_plain _ (fun x hx => word_ne34 (tw_all (p := wordC) (l.drop s.pos) x ?_))
          unfold atomL at hx
          rw [tw_front] at hx
          exact hx
      · rw [Sc.run_fault rfl hp hf] at hr
        exact absurd hr hf
    · rw [List.take_of_length_le (by omega)] at hq
      exact hq
theorem scan_out {l : List UInt8} {lits : List ByteArray} (h : scanE l lits = 0) : qst l 0 = 0 := by
  unfold scanE at h
  split at h
  · exact absurd h (by decide)
  · exact run_out l l.length (Sc.new lits) (SInv.new _ _) rfl (by simp) h
end Go.Proofs.YtonfchpfhdoefabDoor

/- lex, plain: lines of one word; announcements at the end. -/
namespace Go.Proofs.YtonfchpfhdoefabDoor
open Go.RowKit

theorem dec_all (n : Nat) : ∀ x ∈ Lib.decDigits n, isDig x = true := by
  induction n using Nat.strongRecOn with
  | ind n ih =>
  have dig : ∀ r, r < 10 → isDig (UInt8.ofNat (48 + r)) = true := fun r hr => by
    rw [isDig_iff]
    have : (UInt8.ofNat (48 + r)).toNat = 48 + r := by rw [UInt8.toNat_ofNat']; omega
    omega
  rw [Lib.decDigits]
  split
  · intro x hx
    rw [List.mem_singleton] at hx
    rw [hx]
    exact dig _ (by assumption)
  · intro x hx
    rw [List.mem_append, List.mem_singleton] at hx
    rcases hx with hx | hx
    · exact ih (n / 10) (by omega) x hx
    · rw [hx]
      exact dig _ (by omega)
theorem dec_ne (n : Nat) : Lib.decDigits n ≠ [] := by
  rw [Lib.decDigits]
  split <;> simp
theorem dec_fold (n : Nat) (hn : n ≤ 4294967296) : (Lib.decDigits n).foldl capN 0 = n := by
  induction n using Nat.strongRecOn with
  | ind n ih =>
  have dig : ∀ r, r < 10 → (UInt8.ofNat (48 + r)).toNat - 48 = r := fun r hr => by
    have : (UInt8.ofNat (48 + r)).toNat = 48 + r := by rw [UInt8.toNat_ofNat']; omega
    omega
  rw [Lib.decDigits]
  split
  · rename_i h
    show capN 0 _ = n
    unfold capN
    rw [dig _ h]
    omega
  · rw [List.foldl_append, ih (n / 10) (by omega) (by omega)]
    show capN _ _ = n
    unfold capN
    rw [dig _ (by omega)]
    omega
theorem tw_of (d r : List UInt8) (hd : ∀ x ∈ d, isDig x = true) (hr : ∀ c q, r = c :: q → isDig c = false) : (d ++ r).takeWhile isDig = d := by
  induction d with
  | nil =>
    cases r with
    | nil => rfl
    | cons c q => rw [List.nil_append, List.takeWhile_cons_of_neg (by simp [hr c q rfl])]
  | cons a d ih =>
    rw [List.cons_append, List.takeWhile_cons_of_pos (hd a (by simp)), ih (fun x hx => hd x (by simp [hx]))]
theorem dec_small : ∀ (k n : Nat), n < 10 ^ (k + 1) → (Lib.decDigits n).length ≤ k + 1
  | 0, n, h => by rw [Lib.decDigits_one (by simpa using h)]; simp
  | k + 1, n, h => by
    rw [Lib.decDigits]
    split
    · simp
    · have := dec_small k (n / 10) (by rw [Nat.pow_succ] at h; omega)
      rw [List.length_append, List.length_singleton]
      omega
/-- A text that is just an announcement. -/
def annT (d : List UInt8) (pl : Bool) : List UInt8 := 123 :: (d ++ ((if pl then [43] else []) ++ [125]))
theorem annT_D {d : List UInt8} (pl : Bool) (hd : ∀ x ∈ d, isDig x = true) : annD (annT d pl) = d := by
  unfold annD annT
  show (d ++ _).takeWhile isDig = d
  refine tw_of d _ hd (fun c q h => ?_)
  cases pl <;> simp at h <;> rw [← h.1] <;> decide
theorem annT_R {d : List UInt8} (pl : Bool) (hd : ∀ x ∈ d, isDig x = true) : annR (annT d pl) = (if pl then [43] else []) ++ [125] := by
  unfold annR
  rw [annT_D pl hd]
  unfold annT
  rw [Nat.add_comm, List.drop_succ_cons, List.drop_left]
theorem annT_E {d : List UInt8} (pl : Bool) (hd : ∀ x ∈ d, isDig x = true) : annP (annT d pl) = pl ∧ annE (annT d pl) = [125] := by
  have h1 : annP (annT d pl) = pl := by
    unfold annP
    rw [annT_R pl hd]
    cases pl <;> rfl
  refine ⟨h1, ?_⟩
  unfold annE
  rw [h1, annT_R pl hd]
  cases pl <;> rfl
theorem annT_B {d : List UInt8} (pl : Bool) (hd : ∀ x ∈ d, isDig x = true) (h0 : d ≠ []) : annB (annT d pl) = true := by
  unfold annB
  rw [annT_D pl hd, (annT_E pl hd).2]
  cases d with
  | nil => exact absurd rfl h0
  | cons a r => rfl
theorem annT_all {d : List UInt8} (pl : Bool) (hd : ∀ x ∈ d, isDig x = true) (h0 : d ≠ []) : annN (annT d pl) = d.foldl capN 0 ∧ annQ (annT d pl) = pl ∧ annS (annT d pl) = (annT d pl).length ∧ hitB (annT d pl) = true := by
  have hB := annT_B pl hd h0
  have hE := annT_E pl hd
  have hS : annS (annT d pl) = (annT d pl).length := by
    unfold annS
    rw [if_pos hB, hE.2]
    have : 0 < (annT d pl).length := by unfold annT; simp
    simp only [List.length_singleton]
    omega
  refine ⟨?_, ?_, hS, ?_⟩
  · unfold annN annF
    rw [if_pos hB, annT_D pl hd]
  · unfold annQ
    rw [hB, hE.1, Bool.true_and]
  · unfold hitB
    rw [hS]
    show ((some 123 == some 123) && _) = true
    simp
theorem lastAt_app : ∀ (X r : List UInt8), 123 ∉ r → lastAt (X ++ 123 :: r) = some X.length
  | [], r, h => by
    show (match lastAt r with | some k => some (k + 1) | none => if (123 : UInt8) = 123 then some 0 else none) = some 0
    rw [lastAt_mem r h]
    rfl
  | c :: X, r, h => by
    show (match lastAt (X ++ 123 :: r) with | some k => some (k + 1) | none => if c = 123 then some 0 else none) = some (X.length + 1)
    rw [lastAt_app X r h]
theorem anced_app (X d : List UInt8) (pl : Bool) (hd : ∀ x ∈ d, isDig x = true) (h0 : d ≠ []) : anced (X ++ annT d pl) = if endsQ X then none else some (d.foldl capN 0, pl) := by
  obtain ⟨h1, h2, h3, h4⟩ := annT_all pl hd h0
  have hl : lastAt (X ++ annT d pl) = some X.length := by
    unfold annT
    refine lastAt_app X _ (fun hm => ?_)
    rw [List.mem_append] at hm
    rcases hm with hm | hm
    · exact dig_ne (hd _ hm) rfl
    · cases pl <;> simp at hm
  unfold anced
  rw [hl]
  show (if endsQ ((X ++ annT d pl).take X.length) = true then none else if hitB ((X ++ annT d pl).drop X.length) = true then some (annN ((X ++ annT d pl).drop X.length), annQ ((X ++ annT d pl).drop X.length)) else none) = _
  rw [List.take_left, List.drop_left, if_pos h4, h1, h2]
theorem annL_T (n : Nat) : annL n = annT (Lib.decDigits n) false := by
  unfold annL annT
  simp
theorem anced_ann (X : List UInt8) (n : Nat) (hn : n ≤ 4294967296) : anced (X ++ annL n) = if endsQ X then none else some (n, false) := by
  rw [annL_T, anced_app X _ false (dec_all n) (dec_ne n), dec_fold n hn]
/-- A line of one word. -/
theorem run_one {l : List UInt8} {lits : List ByteArray} {s' : Sc} (hl : 0 < l.length) (hf : (Sc.new lits).fault l = 0) (hs : (Sc.new lits).step l = .go s') (hp : s'.pos = l.length) (hu : s'.under = []) (hli : s'.lits = []) (hb : bt l (l.length - 1) ≠ 32) (hlong : longB l lits = false) :
    scanE l lits = 0 ∧ scanW l lits = s'.top.kids := by
  obtain ⟨n, hn⟩ : ∃ n, l.length = n + 1 := ⟨l.length - 1, by omega⟩
  have hrun : (Sc.new lits).run l l.length = (0, s'.top.kids) := by
    have h1 : s'.run l n = (Sc.new lits).run l l.length := by
      rw [hn]
      exact Sc.run_go rfl (by show 0 < l.length; omega) hf hs
    rw [← h1, Sc.run_end rfl (by rw [hp]; omega)]
    have he : s'.endE l false = 0 := by
      unfold Sc.endE blankB
      rw [hu, hli, hp]
      have : (bt l (l.length - 1) == 32) = false := by simpa using hb
      rw [this]
      simp
    rw [he]
  have hE : scanE l lits = 0 := by unfold scanE; rw [hlong, hrun]; rfl
  refine ⟨hE, ?_⟩
  unfold scanW
  rw [hlong, hE, hrun]
  rfl
theorem bt_last (l : List UInt8) (c : UInt8) : bt (l ++ [c]) ((l ++ [c]).length - 1) = c := by
  unfold bt
  rw [show (l ++ [c]).length - 1 = l.length by simp, List.getElem?_append_right (Nat.le_refl _)]
  simp
/-- A literal alone. -/
theorem scan_lit (t : ByteArray) (ht : t.size ≤ 16384) : scanE (annL t.size) [t] = 0 ∧ scanW (annL t.size) [t] = [.mk 3 t [] false] := by
  have hd := dec_all t.size
  have h0 := dec_ne t.size
  obtain ⟨h1, h2, h3, h4⟩ := annT_all false hd h0
  rw [dec_fold _ (by omega)] at h1
  have hB := annT_B false hd h0
  rw [annL_T]
  have hlen2 : (Lib.decDigits t.size).length ≤ 20 := by
    have := dec_small 4 t.size (by omega)
    omega
  have hl2 : (annT (Lib.decDigits t.size) false).length ≤ 4096 := by unfold annT; simp; omega
  have := run_one (l := annT (Lib.decDigits t.size) false) (lits := [t]) (s' := { Sc.new [t] with pos := (annT (Lib.decDigits t.size) false).length, begun := 1, lits := [] }.add (Wd.mk 3 t [] false)) (by unfold annT; simp) (by
      rw [Sc.fault_eq]
      have e1 : begB (annT (Lib.decDigits t.size) false) (Sc.new [t]).pos = true := hB
      have e2 : fitB (annT (Lib.decDigits t.size) false) (Sc.new [t]).pos (Sc.new [t]).lits = true := by
        show (t.size == annN (annT (Lib.decDigits t.size) false)) = true
        rw [h1]; simp
      rw [e1, e2]
      rfl) (by
      show Rd.go ({ Sc.new [t] with pos := 0 + annS (annT (Lib.decDigits t.size) false), begun := 1, lits := [] }.add (Wd.mk 3 t [] false)) = _
      rw [h3, Nat.zero_add]) rfl rfl rfl (by
      have := bt_last (123 :: (Lib.decDigits t.size)) 125
      rw [show annT (Lib.decDigits t.size) false = 123 :: (Lib.decDigits t.size) ++ [125] from rfl, this]
      decide) (by
      unfold longB
      simp only [List.length_singleton, List.any_cons, List.any_nil, Bool.or_false]
      rw [decide_eq_false (by omega), decide_eq_false (by omega), decide_eq_false (by omega)]
      rfl)
  exact this
/-- Quotes of bytes that may be quoted, behind the first of them. -/
theorem quo_quote : ∀ (x acc : List UInt8) (n : Nat), x.all quotC = true → quo (quoteB x ++ [34]) false acc n = .done (acc ++ x) (n + (quoteB x).length + 1)
  | [], acc, n, _ => by rw [List.append_nil]; rfl
  | c :: x, acc, n, h => by
    rw [List.all_cons, Bool.and_eq_true] at h
    have hb : quoteB (c :: x) = q1 c ++ quoteB x := by unfold quoteB; rw [List.flatMap_cons]
    have hc := h.1
    rw [hb]
    cases hs : slashB c with
    | true =>
      rw [show q1 c = [92, c] by unfold q1; rw [hs]; rfl]
      show quo (92 :: c :: (quoteB x ++ [34])) false acc n = _
      have e1 : quo (92 :: c :: (quoteB x ++ [34])) false acc n = quo (c :: (quoteB x ++ [34])) true acc (n + 1) := rfl
      have e2 : quo (c :: (quoteB x ++ [34])) true acc (n + 1) = quo (quoteB x ++ [34]) false (acc ++ [c]) (n + 1 + 1) := by
        rw [quo, hc, hs]
        simp
      rw [e1, e2, quo_quote x (acc ++ [c]) (n + 1 + 1) h.2]
      congr 1
      · simp
      · simp; omega
    | false =>
      rw [show q1 c = [c] by unfold q1; rw [hs]; rfl]
      show quo (c :: (quoteB x ++ [34])) false acc n = _
      have hn : (c == 34) = false ∧ (c == 92) = false := by
        unfold slashB at hs
        rw [Bool.or_eq_false_iff] at hs
        exact hs
      have e2 : quo (c :: (quoteB x ++ [34])) false acc n = quo (quoteB x ++ [34]) false (acc ++ [c]) (n + 1) := by
        rw [quo, hc, hn.1, hn.2]
        simp
      rw [e2, quo_quote x (acc ++ [c]) (n + 1) h.2]
      congr 1
      · simp
      · simp; omega
/-- A quoted word alone. -/
theorem scan_quote (x : List UInt8) (hx : x.all quotC = true) (hlen : x.length ≤ 2000) : scanE (quoteL x) [] = 0 ∧ scanW (quoteL x) [] = [.mk 2 (S x) [] false] := by
  have hq := quo_quote x [] 0 hx
  have hl := quoteL_len x
  have hl0 : (quoteL x).length = (quoteB x).length + 2 := by unfold quoteL; simp
  have := run_one (l := quoteL x) (lits := []) (s' := { Sc.new [] with pos := 0 + 1 + (0 + (quoteB x).length + 1), begun := 1 }.add (Wd.mk 2 (S ([] ++ x)) [] false)) (by omega) rfl (by
      have e : (Sc.new []).step (quoteL x) = match quo (quoteB x ++ [34]) false [] 0 with
        | .bad => .err 31
        | .cut => .cut { Sc.new [] with pos := (quoteL x).length, begun := 1 }
        | .done t n => .go ({ Sc.new [] with pos := 0 + 1 + n, begun := 1 }.add (Wd.mk 2 (S t) [] false)) := rfl
      rw [e, hq]) (by show 0 + 1 + (0 + (quoteB x).length + 1) = _; omega) rfl rfl (by
      have := bt_last (34 :: quoteB x) 34
      rw [show quoteL x = 34 :: quoteB x ++ [34] from rfl, this]
      decide) (by
      unfold longB
      rw [decide_eq_false (by omega)]
      rfl)
  exact this
theorem word_plain (c : UInt8) : wordC c = true → (c == 32) = false ∧ openerB c = false ∧ closerB c = false ∧ (c == 123) = false ∧ (c == 34) = false :=
  all_bytes (p := fun c => wordC c = true → (c == 32) = false ∧ openerB c = false ∧ closerB c = false ∧ (c == 123) = false ∧ (c == 34) = false) (by decide +kernel) c
theorem tw_id {p : UInt8 → Bool} (l : List UInt8) (h : l.all p = true) : l.takeWhile p = l := by
  induction l with
  | nil => rfl
  | cons a l ih =>
    rw [List.all_cons, Bool.and_eq_true] at h
    rw [List.takeWhile_cons_of_pos h.1, ih h.2]
/-- An atom alone. -/
theorem scan_atom (x : List UInt8) (h0 : x ≠ []) (hx : x.all wordC = true) (hlen : x.length ≤ 2000) : scanE x [] = 0 ∧ scanW x [] = [.mk 1 (S x) [] false] := by
  obtain ⟨c, r, rfl⟩ : ∃ c r, x = c :: r := by
    cases x with
    | nil => exact absurd rfl h0
    | cons c r => exact ⟨c, r, rfl⟩
  have hc : wordC c = true := by rw [List.all_cons, Bool.and_eq_true] at hx; exact hx.1
  obtain ⟨c1, c2, c3, c4, c5⟩ := word_plain c hc
  have ha : atomL (c :: r) 0 = c :: r := by
    unfold atomL
    rw [List.drop_zero]
    exact tw_id _ hx
  have hbt : bt (c :: r) (Sc.new []).pos = c := rfl
  have hlast : bt (c :: r) ((c :: r).length - 1) ≠ 32 := by
    have : wordC (bt (c :: r) ((c :: r).length - 1)) = true := by
      unfold bt
      rw [List.getElem?_eq_getElem (by simp)]
      exact List.all_eq_true.1 hx _ (List.getElem_mem _)
    intro e
    rw [e] at this
    exact absurd this (by decide)
  have := run_one (l := c :: r) (lits := []) (s' := { Sc.new [] with pos := 0 + (c :: r).length, begun := 1 }.add (Wd.mk 1 (S (c :: r)) [] false)) (by simp) (by
      have hbeg : begB (c :: r) (Sc.new []).pos = true := by
        show (if c == 123 then _ else (c == 34 || openerB c || wordC c)) = true
        rw [c4, hc]; simp
      rw [Sc.fault_eq, hbeg, hbt, c1, c2, c3, c4]
      rfl) (by
      have e : (Sc.new []).step (c :: r) = .go ({ Sc.new [] with pos := 0 + (atomL (c :: r) 0).length, begun := 1 }.add (Wd.mk 1 (S (atomL (c :: r) 0)) [] false)) := by
        unfold Sc.step
        rw [hbt]
        simp only [c1, c2, c3, c4, c5, Bool.false_eq_true, if_false]
        rfl
      rw [e, ha]) (by show 0 + (c :: r).length = _; omega) rfl rfl hlast (by
      unfold longB
      rw [decide_eq_false (by omega)]
      rfl)
  exact this
theorem tw13 (A r : List UInt8) (h : ∀ x ∈ A, x ≠ 13) : (A ++ 13 :: r).takeWhile (fun x => x != 13) = A := by
  induction A with
  | nil => rfl
  | cons a A ih =>
    have ha : (a != 13) = true := by simpa using h a (by simp)
    rw [List.cons_append, List.takeWhile_cons_of_pos (p := fun x => x != 13) ha, ih (fun x hx => h x (by simp [hx]))]
theorem annL_13 (n : Nat) : ∀ x ∈ annL n, x ≠ 13 := by
  intro x hx
  rw [annL_T] at hx
  unfold annT at hx
  simp only [List.mem_cons, List.mem_append] at hx
  rintro rfl
  rcases hx with hx | hx | hx | hx | hx
  · exact absurd hx (by decide)
  · exact absurd (dec_all n _ hx) (by decide)
  · cases hx
  · exact absurd hx (by decide)
  · cases hx
theorem quote_13 (x : List UInt8) (h : x.all quotC = true) : ∀ c ∈ quoteL x, c ≠ 13 := by
  intro c hc
  unfold quoteL quoteB at hc
  simp only [List.mem_cons, List.mem_append, List.mem_flatMap] at hc
  rintro rfl
  rcases hc with hc | ⟨a, ha, hc⟩ | hc | hc
  · exact absurd hc (by decide)
  · have hq := List.all_eq_true.1 h a ha
    unfold q1 at hc
    split at hc
    · simp only [List.mem_cons] at hc
      rcases hc with hc | hc | hc
      · exact absurd hc (by decide)
      · rw [← hc] at hq; exact absurd hq (by decide)
      · cases hc
    · rw [List.mem_singleton] at hc
      rw [← hc] at hq
      exact absurd hq (by decide)
  · exact absurd hc (by decide)
  · cases hc
theorem strL_inj {a b : List UInt8} (h : strL a = strL b) : a = b := by
  unfold strL at h
  split at h
  · rename_i ha
    split at h
    · rename_i hb
      unfold quoteL at h
      injection h with _ h
      have h1 := quo_quote a [] 0 ha
      have h2 := quo_quote b [] 0 hb
      rw [h, h2] at h1
      injection h1 with h1
      simpa using h1.symm
    · unfold quoteL annL at h
      simp at h
  · split at h
    · unfold quoteL annL at h
      simp at h
    · have h1 := tw13 (annL a.length) (10 :: a) (annL_13 _)
      have h2 := tw13 (annL b.length) (10 :: b) (annL_13 _)
      have e1 : annL a.length ++ [13, 10] ++ a = annL a.length ++ 13 :: 10 :: a := by simp
      have e2 : annL b.length ++ [13, 10] ++ b = annL b.length ++ 13 :: 10 :: b := by simp
      rw [e1, e2] at h
      rw [h, h2] at h1
      rw [h1] at h
      have := List.append_cancel_left h
      injection this with _ this
      injection this with _ this
theorem strL_head (a : List UInt8) : (strL a).head? = some 34 ∨ (strL a).head? = some 123 := by
  unfold strL
  split
  · exact .inl rfl
  · exact .inr rfl
theorem astr_head {a : List UInt8} (h : isAstr a = true) : ∃ c r, a = c :: r ∧ atomC c = true ∧ a.all wordC = true := by
  unfold isAstr isAtom at h
  rw [Bool.and_eq_true, Bool.and_eq_true] at h
  cases a with
  | nil => exact absurd h.1.1 (by decide)
  | cons c r =>
    have h2 := h.1.2
    have h3 := h2
    rw [List.all_cons, Bool.and_eq_true] at h3
    refine ⟨c, r, rfl, h3.1, ?_⟩
    rw [List.all_eq_true] at h2 ⊢
    intro x hx
    have := h2 x hx
    unfold atomC at this
    rw [Bool.and_eq_true, Bool.and_eq_true, Bool.and_eq_true] at this
    exact this.1.1.1
theorem astr_str {a b : List UInt8} (h : isAstr a = true) : a ≠ strL b := by
  obtain ⟨c, r, rfl, hc, _⟩ := astr_head h
  intro e
  rcases strL_head b with hb | hb
  · rw [← e] at hb
    simp at hb
    rw [hb] at hc
    exact absurd hc (by decide)
  · rw [← e] at hb
    simp at hb
    rw [hb] at hc
    exact absurd hc (by decide)
theorem putL_inj {a b : List UInt8} (h : putL a = putL b) : a = b := by
  unfold putL at h
  split at h
  · rename_i ha
    split at h
    · exact h
    · exact absurd h (astr_str ha)
  · split at h
    · rename_i hb
      exact absurd h.symm (astr_str hb)
    · exact strL_inj h
theorem putL_nil (a : List UInt8) : putL a ≠ [78, 73, 76] := by
  unfold putL
  split
  · rename_i h
    rintro rfl
    exact absurd h (by decide +kernel)
  · intro e
    rcases strL_head a with h | h <;> rw [e] at h <;> exact absurd h (by decide)
theorem wd_13 {a : List UInt8} (h : a.all wordC = true) : ∀ x ∈ a, x ≠ 13 := by
  rintro x hx rfl
  exact absurd (List.all_eq_true.1 h _ hx) (by decide)
end Go.Proofs.YtonfchpfhdoefabDoor
