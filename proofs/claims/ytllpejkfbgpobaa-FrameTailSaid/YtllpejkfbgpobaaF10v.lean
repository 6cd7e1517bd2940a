/- frame, plain: a byte turned. -/
import Derived.Test.YtllpejkfbgpobaaF10r
namespace Go.Proofs.Ytllpejkfbgpobaa

theorem crc_set {l : List UInt8} {p : Nat} {y : UInt8} (hp : p < l.length) (hy : bt l p ≠ y) : crc (l.set p y) ≠ crc l := by
  have e : l = l.take p ++ bt l p :: l.drop (p + 1) := by
    rw [bt_getElem l p hp]
    simp
  have e2 : l.set p y = l.take p ++ y :: l.drop (p + 1) := by rw [List.set_eq_take_append_cons_drop, if_pos hp]
  rw [e2]
  conv => rhs; rw [e]
  exact crc_turned _ _ (Ne.symm hy)
theorem bt_set' (l : List UInt8) (p j : Nat) (y : UInt8) (h : j ≠ p) : bt (l.set p y) j = bt l j := by
  unfold bt
  rw [List.getElem?_set_ne (Ne.symm h)]
theorem w4_set (l : List UInt8) (p i : Nat) (y : UInt8) (h : p < i ∨ i + 4 ≤ p) : w4 (l.set p y) i = w4 l i := by
  unfold w4
  rw [bt_set' _ _ _ _ (by omega), bt_set' _ _ _ _ (by omega), bt_set' _ _ _ _ (by omega), bt_set' _ _ _ _ (by omega)]
theorem w4_inj {a b : List UInt8} {i : Nat} (h : w4 a i = w4 b i) : bt a i = bt b i ∧ bt a (i + 1) = bt b (i + 1) ∧ bt a (i + 2) = bt b (i + 2) ∧ bt a (i + 3) = bt b (i + 3) := by
  unfold w4 at h
  have a0 := bt_lt a i; have a1 := bt_lt a (i + 1); have a2 := bt_lt a (i + 2); have a3 := bt_lt a (i + 3)
  have b0 := bt_lt b i; have b1 := bt_lt b (i + 1); have b2 := bt_lt b (i + 2); have b3 := bt_lt b (i + 3)
  exact ⟨UInt8.toNat_inj.1 (by omega), UInt8.toNat_inj.1 (by omega), UInt8.toNat_inj.1 (by omega), UInt8.toNat_inj.1 (by omega)⟩
theorem w4_spoilt {l : List UInt8} {p i : Nat} {y : UInt8} (hp : p < l.length) (h1 : i ≤ p) (h2 : p < i + 4) (hy : bt l p ≠ y) : w4 (l.set p y) i ≠ w4 l i := by
  intro h
  obtain ⟨q0, q1, q2, q3⟩ := w4_inj h
  have hs : bt (l.set p y) p = y := by simp [bt, hp]
  have hj : p = i ∨ p = i + 1 ∨ p = i + 2 ∨ p = i + 3 := by omega
  rcases hj with e | e | e | e
  · rw [← e, hs] at q0; exact hy q0.symm
  · rw [← e, hs] at q1; exact hy q1.symm
  · rw [← e, hs] at q2; exact hy q2.symm
  · rw [← e, hs] at q3; exact hy q3.symm
/-- A frame with one byte turned is none. -/
theorem spoilt_none {k n : Nat} {b : List UInt8} (hok : okF k n b) (s : List UInt8) {p : Nat} {y : UInt8} (hp : p < b.length + 18) (hy : bt (frm k n b ++ s) p ≠ y) : ¬ isF ((frm k n b ++ s).set p y) := by
  obtain ⟨h1, h2, h3, h4⟩ := hok
  obtain ⟨_, _, _, g6, g10, gE, t10, tA, _⟩ := frm_bits k n b s (by omega) (by omega) (by omega)
  have hl : b.length + 18 ≤ (frm k n b ++ s).length := by rw [List.length_append, frm_length]; omega
  rw [← t10] at g10
  rw [← tA] at gE
  generalize frm k n b ++ s = l at *
  rintro ⟨_, _, _, _, _, _, _, q10, qE⟩
  rw [List.take_set] at q10 qE
  by_cases p1 : p < 10
  · rw [w4_set _ _ _ _ (.inl p1), g10] at q10
    exact crc_set (l := l.take 10) (by simp; omega) (by rw [bt_take _ _ _ p1]; exact hy) q10
  by_cases p2 : p < 14
  · rw [List.set_eq_of_length_le (by simp; omega), ← g10] at q10
    exact w4_spoilt (by omega) (by omega) (by omega) hy q10.symm
  rw [w4_set _ _ _ _ (.inr (by omega)), g6] at qE
  by_cases p3 : p < 14 + b.length
  · rw [w4_set _ _ _ _ (.inl p3), gE] at qE
    exact crc_set (l := l.take (14 + b.length)) (by simp; omega) (by rw [bt_take _ _ _ p3]; exact hy) qE
  · rw [List.set_eq_of_length_le (by simp; omega), ← gE] at qE
    exact w4_spoilt (by omega) (by omega) (by omega) hy qE.symm
theorem rw_take : ∀ (G : List Fr) (i n : Nat), Rw i G → Rw i (G.take n) := by
  intro G
  induction G with
  | nil => intro i n _; simp [Rw]
  | cons g G ih =>
    intro i n h
    cases n with
    | zero => simp [Rw]
    | succ n =>
      obtain ⟨h1, h2, h3, h4⟩ := h
      rw [List.take_succ_cons]
      refine ⟨h1, h2, fun q hq => h3 q ?_, ih _ _ h4⟩
      cases n with
      | zero => simp at hq
      | succ n => cases G with
        | nil => simp at hq
        | cons a G => simpa using hq
/-- With one byte turned: the frames ahead of it. -/
theorem scan_spoilt {G : List Fr} (hr : Rw 0 G) {c n : Nat} {y : UInt8} {f : Fr} (hf : G[n]? = some f) (hle : (laid (G.take n)).length ≤ c) (hlt : c < f.ends) (hy : bt (laid G) c ≠ y) : scan ((laid G).set c y) 0 0 = G.take n := by
  have hnl : n < G.length := (List.getElem?_eq_some_iff.1 hf).1
  have hdr : G.drop n = f :: G.drop (n + 1) := by
    rw [List.drop_eq_getElem_cons hnl]
    congr 1
    have := List.getElem?_eq_getElem hnl
    rw [hf] at this
    exact (Option.some.inj this).symm
  have e0 : laid G = laid (G.take n) ++ (frm f.kind f.num f.body ++ laid (G.drop (n + 1))) := by rw [← laid_cons, ← hdr, ← laid_append, List.take_append_drop]
  obtain ⟨q1, _, q3⟩ := rw_length G 0 hr n f hf
  obtain ⟨p, hp⟩ : ∃ p, c = (laid (G.take n)).length + p := ⟨c - (laid (G.take n)).length, by omega⟩
  have hp2 : p < f.body.length + 18 := by unfold Fr.ends at hlt; omega
  have hy2 : bt (frm f.kind f.num f.body ++ laid (G.drop (n + 1))) p ≠ y := by
    rw [e0, hp, bt_append_right] at hy; exact hy
  have e1 : (laid G).set c y = laid (G.take n) ++ (frm f.kind f.num f.body ++ laid (G.drop (n + 1))).set p y := by
    rw [e0, hp, List.set_append_right _ _ (by omega)]
    congr 2
    omega
  rw [e1]
  have := scan_rw (G.take n) [] ((frm f.kind f.num f.body ++ laid (G.drop (n + 1))).set p y) 0 (rw_take G 0 n hr) (fun h => absurd h (Nat.lt_irrefl 0))
  simp only [List.nil_append, List.length_nil] at this
  rw [this, scan_off, List.append_nil]
  rintro ⟨hF, _⟩
  rw [List.drop_left] at hF
  exact spoilt_none q3 _ hp2 hy2 hF
end Go.Proofs.Ytllpejkfbgpobaa
