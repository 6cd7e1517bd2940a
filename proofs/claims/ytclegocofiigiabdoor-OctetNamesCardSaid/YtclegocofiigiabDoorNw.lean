/- Plain mathematics: names there and back. -/
import Derived.Test.YtclegocofiigiabDoorNv
namespace Go.Proofs.YtclegocofiigiabDoor

theorem name_ok : okLetters nameL := by
  have : ∀ i : Fin 64, worthOf nameL (bt nameL i.val).toNat = (i.val : Int) := by decide +kernel
  exact fun i hi => this ⟨i, hi⟩
theorem name_ne : ∀ i, i < 64 → bt nameL i ≠ 45 ∧ 32 ≤ (bt nameL i).toNat ∧ (bt nameL i).toNat ≤ 126 := by
  have : ∀ i : Fin 64, bt nameL i.val ≠ 45 ∧ 32 ≤ (bt nameL i.val).toNat ∧ (bt nameL i.val).toNat ≤ 126 := by decide +kernel
  exact fun i hi => this ⟨i, hi⟩
theorem dash_app : ∀ (p q : List UInt8), (∀ c ∈ p, c ≠ 45) → dash (p ++ 45 :: q) = some p.length := by
  intro p
  induction p with
  | nil => intro q _; rfl
  | cons c p ih =>
    intro q h
    rw [List.cons_append, dash, if_neg (h c (by simp)), ih q (fun x hx => h x (by simp [hx]))]; rfl
/-- Reading two bytes at a time, as far as the row goes. -/
def rpL : List UInt8 → List UInt8 := readPairs
theorem unit_bt (pre : List UInt8) (r : Nat) (hr : r < 65536) (t : List UInt8) : unitN (pre ++ (unit8 r ++ t)) pre.length = r := by
  unfold unitN
  have h0 : bt (pre ++ (unit8 r ++ t)) pre.length = UInt8.ofNat (r / 256) := by
    unfold bt; rw [List.getElem?_append_right (Nat.le_refl _)]; simp [unit8]
  have h1 : bt (pre ++ (unit8 r ++ t)) (pre.length + 1) = UInt8.ofNat r := by
    unfold bt; rw [List.getElem?_append_right (by omega)]; simp [unit8]
  rw [if_pos (by simp [unit8]), h0, h1]
  simp; omega
theorem rp_enc : ∀ (rs : List Nat), (∀ r ∈ rs, sc r) → ∀ (pre : List UInt8) (f : Nat), (rs.flatMap pairOf).length ≤ f → rp (pre ++ rs.flatMap pairOf) f pre.length = encL rs := by
  intro rs
  induction rs with
  | nil =>
    intro _ pre f _
    cases f with
    | zero => rfl
    | succ f => rw [rp, if_neg (by simp)]; rfl
  | cons r rs ih =>
    intro h pre f hf
    have hr := h r (by simp)
    have hrs : ∀ x ∈ rs, sc x := fun x hx => h x (by simp [hx])
    have hm := sc_lt r hr
    unfold sc at hr
    rw [List.flatMap_cons, List.length_append] at hf
    rw [List.flatMap_cons, encL_cons]
    rcases Nat.lt_or_ge r 65536 with h1 | h1
    · have hp : pairOf r = unit8 r := by unfold pairOf; rw [if_neg (by omega)]
      rw [hp] at hf ⊢
      have hl : (unit8 r).length = 2 := rfl
      rw [hl] at hf
      obtain ⟨f, rfl⟩ : ∃ g, f = g + 1 := ⟨f - 1, by omega⟩
      have hu := unit_bt pre r h1 (rs.flatMap pairOf)
      rw [rp, if_pos (by simp [unit8]), hu, if_neg (by unfold pairB; simp; omega)]
      have e1 : pre ++ (unit8 r ++ rs.flatMap pairOf) = (pre ++ unit8 r) ++ rs.flatMap pairOf := by simp
      have e2 : pre.length + 2 = (pre ++ unit8 r).length := by simp [unit8]
      rw [e1, e2, ih hrs (pre ++ unit8 r) f (by omega)]
      rfl
    · have hp : pairOf r = unit8 (55296 + (r - 65536) / 1024) ++ unit8 (56320 + (r - 65536) % 1024) := by unfold pairOf; rw [if_pos h1]
      rw [hp] at hf ⊢
      have hl : (unit8 (55296 + (r - 65536) / 1024) ++ unit8 (56320 + (r - 65536) % 1024)).length = 4 := rfl
      rw [hl] at hf
      obtain ⟨f, rfl⟩ : ∃ g, f = g + 1 := ⟨f - 1, by omega⟩
      have hu := unit_bt pre (55296 + (r - 65536) / 1024) (by omega) (unit8 (56320 + (r - 65536) % 1024) ++ rs.flatMap pairOf)
      have hv := unit_bt (pre ++ unit8 (55296 + (r - 65536) / 1024)) (56320 + (r - 65536) % 1024) (by omega) (rs.flatMap pairOf)
      have e0 : (pre ++ unit8 (55296 + (r - 65536) / 1024)).length = pre.length + 2 := by simp [unit8]
      have e1 : (pre ++ unit8 (55296 + (r - 65536) / 1024)) ++ (unit8 (56320 + (r - 65536) % 1024) ++ rs.flatMap pairOf) = pre ++ (unit8 (55296 + (r - 65536) / 1024) ++ (unit8 (56320 + (r - 65536) % 1024) ++ rs.flatMap pairOf)) := by simp
      rw [e0, e1] at hv
      rw [List.append_assoc, rp, if_pos (by simp [unit8]), hu, hv, if_pos (by unfold pairB; simp; omega)]
      have e2 : 65536 + (55296 + (r - 65536) / 1024 - 55296) * 1024 + (56320 + (r - 65536) % 1024 - 56320) = r := by omega
      have e3 : pre ++ (unit8 (55296 + (r - 65536) / 1024) ++ (unit8 (56320 + (r - 65536) % 1024) ++ rs.flatMap pairOf)) = (pre ++ (unit8 (55296 + (r - 65536) / 1024) ++ unit8 (56320 + (r - 65536) % 1024))) ++ rs.flatMap pairOf := by simp
      have e4 : pre.length + 4 = (pre ++ (unit8 (55296 + (r - 65536) / 1024) ++ unit8 (56320 + (r - 65536) % 1024))).length := by simp [unit8]
      rw [e2, e3, e4, ih hrs _ f (by omega)]
      rfl
theorem readPairs_enc (rs : List Nat) (h : ∀ r ∈ rs, sc r) : readPairs (rs.flatMap pairOf) = encL rs := by
  have := rp_enc rs h [] (rs.flatMap pairOf).length (Nat.le_refl _)
  simpa [readPairs] using this
theorem pack_ne (l t : List UInt8) (h : l ≠ []) : pack l t ≠ [] := by
  intro he
  have hc := six_count l
  have h1 : 0 < l.length := List.length_pos_iff.2 h
  have h2 : (pack l t).length = 0 := by rw [he]; rfl
  unfold pack pkSix at h2
  rw [List.length_map] at h2
  unfold pkEnd at h2
  split at h2
  · rename_i h3
    omega
  · simp at h2
theorem run_back (acc : List Nat) (h : ∀ r ∈ acc, sc r) (rest : List UInt8) : rdn (runS acc ++ rest) 0 = encL acc ++ rdn rest 0 := by
  unfold runS
  by_cases ha : acc = []
  · rw [if_pos ha, ha]; rfl
  · rw [if_neg ha]
    have hne : acc.flatMap pairOf ≠ [] := by
      cases acc with
      | nil => exact absurd rfl ha
      | cons r rs => rw [List.flatMap_cons]; unfold pairOf unit8; split <;> simp
    have hd : dash (pack (acc.flatMap pairOf) nameL ++ [45] ++ rest) = some (pack (acc.flatMap pairOf) nameL).length := by
      rw [List.append_assoc]
      refine dash_app _ _ (fun c hc => ?_)
      obtain ⟨i, hi, rfl⟩ := pack_mem _ _ c hc
      exact (name_ne i hi).1
    rw [List.cons_append, rdn, if_pos rfl, hd]
    simp only
    rw [rdn_skip, List.append_assoc, List.take_left]
    have e1 : (pack (acc.flatMap pairOf) nameL ++ ([45] ++ rest)).drop ((pack (acc.flatMap pairOf) nameL).length + 1) = rest := by
      rw [List.drop_append]; simp
    rw [e1]
    unfold readRun
    rw [if_neg (pack_ne _ _ hne), pack_back nameL name_ok, readPairs_enc acc h]
theorem read_back : ∀ (rs : List Nat), (∀ r ∈ rs, sc r) → ∀ acc, (∀ r ∈ acc, sc r) → rdn (wn rs acc) 0 = encL acc ++ encL rs := by
  intro rs
  induction rs with
  | nil =>
    intro _ acc ha
    rw [wn]
    have := run_back acc ha []
    simpa [rdn, encL] using this
  | cons r rs ih =>
    intro h acc ha
    have hr := h r (by simp)
    have hrs : ∀ x ∈ rs, sc x := fun x hx => h x (by simp [hx])
    rw [wn]
    by_cases hp : prN r
    · rw [if_pos hp, run_back acc ha, encL_cons, en1 r (by unfold prN at hp; omega)]
      congr 1
      have h0 := ih hrs [] (by simp)
      by_cases h38 : r = 38
      · subst h38
        rw [if_pos rfl]
        show rdn (38 :: 45 :: wn rs []) 0 = _
        rw [rdn, if_pos rfl, dash, if_pos rfl]
        simp only
        rw [rdn_skip]
        show readRun [] ++ rdn (wn rs []) 0 = _
        rw [h0]; rfl
      · rw [if_neg h38]
        show rdn (UInt8.ofNat r :: wn rs []) 0 = _
        rw [rdn, if_neg (by intro e; apply h38; have := congrArg UInt8.toNat e; rw [on r (by unfold prN at hp; omega)] at this; exact this), h0]
        rfl
    · rw [if_neg hp, ih hrs (acc ++ [r]) (by
        intro x hx
        rcases List.mem_append.1 hx with hx | hx
        · exact ha x hx
        · simp at hx; subst hx; exact hr)]
      rw [encL_append, encL_cons]; simp [encL]
theorem readName_writeName (rs : List Nat) (h : ∀ r ∈ rs, sc r) : readName (writeName (encL rs)) = encL rs := by
  rw [writeName_enc rs h]
  have := read_back rs h [] (by simp)
  simpa [readName, encL] using this
/-- What is written is printable. -/
def prU (c : UInt8) : Prop := 32 ≤ c.toNat ∧ c.toNat ≤ 126
theorem runOf_pr (l : List UInt8) : ∀ c ∈ runOf l, prU c := by
  intro c hc
  unfold runOf at hc
  split at hc
  · cases hc
  · rcases List.mem_cons.1 hc with rfl | hc
    · exact ⟨by decide, by decide⟩
    · rcases List.mem_append.1 hc with hc | hc
      · obtain ⟨i, hi, rfl⟩ := pack_mem _ _ c hc
        exact (name_ne i hi).2
      · simp at hc; subst hc; exact ⟨by decide, by decide⟩
theorem wnGo_pr (l : List UInt8) : ∀ (xs : List (Nat × Nat)) (fr : Nat), ∀ c ∈ wnGo l xs fr, prU c := by
  intro xs
  induction xs with
  | nil => intro fr c hc; rw [wnGo] at hc; exact runOf_pr _ c hc
  | cons x xs ih =>
    intro fr c hc
    rw [wnGo] at hc
    split at hc
    · exact ih fr c hc
    · rename_i hx
      rcases List.mem_append.1 hc with hc | hc
      · exact runOf_pr _ c hc
      · rcases List.mem_append.1 hc with hc | hc
        · simp at hc; subst hc
          unfold prU; rw [on _ (by omega)]; omega
        · rcases List.mem_append.1 hc with hc | hc
          · split at hc
            · simp at hc; subst hc; exact ⟨by decide, by decide⟩
            · cases hc
          · exact ih _ c hc
theorem writeName_pr (l : List UInt8) : ∀ c ∈ writeName l, prU c := wnGo_pr l _ 0
/-- What is read of ASCII is a text. -/
theorem enc_any (z : Int) : ∃ r, sc r ∧ Lib.encodeRune z = en r := by
  by_cases h : (0 ≤ z ∧ z < 55296) ∨ (57344 ≤ z ∧ z ≤ 1114111)
  · obtain ⟨n, rfl⟩ := Int.eq_ofNat_of_zero_le (show 0 ≤ z by omega)
    exact ⟨n, by unfold sc; omega, rfl⟩
  · refine ⟨65533, .inr (by decide), ?_⟩
    unfold en Lib.encodeRune
    rw [Lib.encodeRuneZ_bad (by omega)]
    rfl
theorem rp_valid (l : List UInt8) : ∀ f k, ∃ rs, (∀ r ∈ rs, sc r) ∧ rp l f k = encL rs := by
  intro f
  induction f with
  | zero => intro k; exact ⟨[], by simp, rfl⟩
  | succ f ih =>
    intro k
    rw [rp]
    split
    · split
      · obtain ⟨rs, h1, h2⟩ := ih (k + 4)
        obtain ⟨r, h3, h4⟩ := enc_any ((65536 + (unitN l k - 55296) * 1024 + (unitN l (k + 2) - 56320) : Nat) : Int)
        exact ⟨r :: rs, by intro x hx; rcases List.mem_cons.1 hx with rfl | hx; exact h3; exact h1 x hx, by rw [h2, h4, encL_cons]⟩
      · obtain ⟨rs, h1, h2⟩ := ih (k + 2)
        obtain ⟨r, h3, h4⟩ := enc_any ((unitN l k : Nat) : Int)
        exact ⟨r :: rs, by intro x hx; rcases List.mem_cons.1 hx with rfl | hx; exact h3; exact h1 x hx, by rw [h2, h4, encL_cons]⟩
    · exact ⟨[], by simp, rfl⟩
theorem rdn_valid : ∀ (l : List UInt8), (∀ c ∈ l, c.toNat < 128) → ∀ n, ∃ rs, (∀ r ∈ rs, sc r) ∧ rdn l n = encL rs := by
  intro l
  induction l with
  | nil => intro _ n; exact ⟨[], by simp, by cases n <;> rfl⟩
  | cons c l ih =>
    intro h n
    have hl : ∀ x ∈ l, x.toNat < 128 := fun x hx => h x (by simp [hx])
    cases n with
    | succ n => rw [rdn]; exact ih hl n
    | zero =>
      rw [rdn]
      split
      · cases dash l with
        | none => exact ⟨[], by simp, rfl⟩
        | some k =>
          obtain ⟨rs, h1, h2⟩ := ih hl (k + 1)
          simp only
          rw [h2]
          unfold readRun
          split
          · exact ⟨38 :: rs, by intro x hx; rcases List.mem_cons.1 hx with rfl | hx; exact .inl (by decide); exact h1 x hx, rfl⟩
          · obtain ⟨rt, h3, h4⟩ := rp_valid (unpack (l.take k) nameL) (unpack (l.take k) nameL).length 0
            refine ⟨rt ++ rs, by intro x hx; rcases List.mem_append.1 hx with hx | hx; exact h3 x hx; exact h1 x hx, ?_⟩
            unfold readPairs
            rw [h4, encL_append]
      · obtain ⟨rs, h1, h2⟩ := ih hl 0
        have hc := h c (by simp)
        refine ⟨c.toNat :: rs, by intro x hx; rcases List.mem_cons.1 hx with rfl | hx; exact .inl (by omega); exact h1 x hx, ?_⟩
        rw [h2, encL_cons, en1 _ hc]; simp
theorem wires_back (l : List UInt8) (h : (wire l).2 = 0) : fromWire (wire l).1 = (l, 0) ∧ ∀ c ∈ (wire l).1, prU c := by
  obtain ⟨h1, h2, h3, h4⟩ := wire_ok l h
  have hlen := wire_len l
  rw [h4] at hlen ⊢
  simp only at hlen ⊢
  refine ⟨?_, writeName_pr l⟩
  obtain ⟨rs, hs, rfl⟩ := enc_valid l h2
  have hb := readName_writeName rs hs
  have hi : withInbox (encL rs) = encL rs := by
    unfold isName at h3
    rw [Bool.and_eq_true] at h3
    simpa using h3.1
  unfold fromWire
  rw [if_neg (by omega), hb, if_neg (by simp), hi, if_neg (by simp [h3])]
theorem from_bad (l : List UInt8) (h : (fromWire l).2 ≠ 0) : (fromWire l).1 = [] := by
  unfold fromWire at h ⊢
  split
  · rfl
  · rename_i h1
    rw [if_neg h1] at h
    split
    · rfl
    · rename_i h2
      rw [if_neg h2] at h
      split
      · rfl
      · rename_i h3
        rw [if_neg h3] at h
        exact absurd rfl h
theorem from_ok (l : List UInt8) (h : (fromWire l).2 = 0) : l.length ≤ 4096 ∧ writeName (readName l) = l ∧ isName (withInbox (readName l)) = true ∧ fromWire l = (withInbox (readName l), 0) := by
  unfold fromWire at h ⊢
  by_cases h1 : 4096 < l.length
  · rw [if_pos h1] at h; simp at h
  · rw [if_neg h1] at h ⊢
    by_cases h2 : writeName (readName l) ≠ l
    · rw [if_pos h2] at h; simp at h
    · rw [if_neg h2] at h ⊢
      by_cases h3 : isName (withInbox (readName l)) = false
      · rw [if_pos h3] at h; simp at h
      · rw [if_neg h3]
        exact ⟨by omega, by simpa using h2, by simpa using h3, rfl⟩
theorem same_pr : ∀ (f g : List UInt8), lower f = lower g → (∀ c ∈ g, 65 ≤ c.toNat ∧ c.toNat ≤ 90) → ∀ c ∈ f, (65 ≤ c.toNat ∧ c.toNat ≤ 90) ∨ (97 ≤ c.toNat ∧ c.toNat ≤ 122) := by
  intro f
  induction f with
  | nil => intro g _ _ c hc; cases hc
  | cons a f ih =>
    intro g h hg c hc
    cases g with
    | nil => simp [lower] at h
    | cons b g =>
      simp only [lower, List.map_cons, List.cons.injEq] at h
      rcases List.mem_cons.1 hc with rfl | hc
      · have hb := hg b (by simp)
        have e1 := sm_toNat c
        have e2 := sm_toNat b
        rw [h.1] at e1
        rw [e1] at e2
        unfold smI at e2
        split at e2 <;> split at e2 <;> omega
      · exact ih g h.2 (fun x hx => hg x (by simp [hx])) c hc
theorem ascii_enc : ∀ (f : List UInt8), (∀ c ∈ f, c.toNat < 128) → encL (f.map UInt8.toNat) = f := by
  intro f
  induction f with
  | nil => intro _; rfl
  | cons c f ih =>
    intro h
    rw [List.map_cons, encL_cons, en1 _ (h c (by simp)), ih (fun x hx => h x (by simp [hx]))]
    simp
theorem map_back (f : List UInt8) : (f.map UInt8.toNat).map UInt8.ofNat = f := by
  rw [List.map_map]
  have e3 : (UInt8.ofNat ∘ UInt8.toNat) = id := by funext c; simp
  rw [e3, List.map_id]
theorem letters_pr (f : List UInt8) (h : ∀ c ∈ f, (65 ≤ c.toNat ∧ c.toNat ≤ 90) ∨ (97 ≤ c.toNat ∧ c.toNat ≤ 122)) : ∀ r ∈ f.map UInt8.toNat, prN r ∧ r ≠ 38 := by
  intro r hr
  obtain ⟨c, hc, rfl⟩ := List.mem_map.1 hr
  have := h c hc
  unfold prN
  omega
theorem inbox_letters : ∀ c ∈ inboxL, 65 ≤ c.toNat ∧ c.toNat ≤ 90 := by
  intro c hc
  simp [inboxL] at hc
  rcases hc with rfl | rfl | rfl | rfl | rfl <;> decide
theorem after_first (l : List UInt8) : l.drop (first l).length = [] ∨ ∃ b, l.drop (first l).length = 47 :: b := by
  rw [first_eq]
  induction l with
  | nil => left; rfl
  | cons c l ih =>
    rw [List.takeWhile_cons]
    by_cases hc : c = 47
    · right; subst hc; exact ⟨l, rfl⟩
    · rw [if_pos (by simpa using hc)]; simpa using ih
theorem wires_read (l : List UInt8) (h : (fromWire l).2 = 0) : ∃ v, wire (fromWire l).1 = (v, 0) ∧ same v l = true ∧
    (v = l ∨ (5 ≤ l.length ∧ 5 ≤ v.length ∧ v.take 5 = inboxL ∧ v.drop 5 = l.drop 5)) := by
  obtain ⟨h1, h2, h3, h4⟩ := from_ok l h
  rw [h4]
  simp only
  have hpr := writeName_pr (readName l)
  rw [h2] at hpr
  obtain ⟨rs, hs, ht⟩ := rdn_valid l (fun c hc => by have := (hpr c hc).2; omega) 0
  change readName l = encL rs at ht
  rw [ht] at h2 h3 ⊢
  have hself : ∀ x : List UInt8, same x x = true := fun x => by simp [same]
  by_cases hi : withInbox (encL rs) = encL rs
  · rw [hi] at h3 ⊢
    have hv := valid_enc rs hs
    have hlen : (encL rs).length ≤ 197 := by
      rw [isName_enc rs hs, Bool.and_eq_true] at h3
      have := ng_bytes rs 1 0 h3.2
      omega
    refine ⟨l, ?_, hself l, .inl rfl⟩
    rw [wire_of _ hlen hv h3, h2]
  · have hsf : same (first (encL rs)) inboxL = true := by
      cases hc : same (first (encL rs)) inboxL with
      | true => rfl
      | false => exact absurd (by unfold withInbox; rw [hc]; rfl) hi
    have hw : withInbox (encL rs) = inboxL ++ (encL rs).drop (first (encL rs)).length := by unfold withInbox; rw [if_pos hsf]
    have hlow : lower (first (encL rs)) = lower inboxL := by simpa [same] using hsf
    have h5 := same_len5 _ hsf
    have hfl := same_pr _ _ hlow inbox_letters
    have hsplit := first_drop (encL rs)
    have haf := after_first (encL rs)
    generalize first (encL rs) = f at *
    generalize (encL rs).drop f.length = rest at *
    have hrest : ∃ rr, (∀ r ∈ rr, sc r) ∧ encL rr = rest ∧ rs = f.map UInt8.toNat ++ rr := by
      have hfe := ascii_enc f (fun c hc => by have := hfl c hc; omega)
      have inj : ∀ (a : List UInt8), (∀ c ∈ a, c.toNat < 128) → ∀ (xs : List Nat), (∀ r ∈ xs, sc r) → ∀ b, encL xs = a ++ b → ∃ rr, (∀ r ∈ rr, sc r) ∧ encL rr = b ∧ xs = a.map UInt8.toNat ++ rr := by
        intro a
        induction a with
        | nil => intro _ xs hx b hb; exact ⟨xs, hx, hb, rfl⟩
        | cons c a ih =>
          intro ha xs hx b hb
          obtain ⟨ra, rb, e1, e2, e3⟩ := enc_split xs hx [] c (a ++ b) hb (ha c (by simp))
          have : ra = [] := (encL_eq_nil ra).1 e2
          subst this
          obtain ⟨rr, k1, k2, k3⟩ := ih (fun x hx' => ha x (by simp [hx'])) rb (fun r hr => hx r (by rw [e1]; simp [hr])) b e3
          exact ⟨rr, k1, k2, by rw [e1, k3]; rfl⟩
      exact inj f (fun c hc => by have := hfl c hc; omega) rs hs rest hsplit
    obtain ⟨rr, hrr, hre, hrs⟩ := hrest
    have hin : inboxL ++ rest = encL (inboxL.map UInt8.toNat ++ rr) := by rw [encL_append, ascii_enc inboxL (fun c hc => by have := inbox_letters c hc; omega), hre]
    have hsn : ∀ r ∈ inboxL.map UInt8.toNat ++ rr, sc r := by
      intro r hr
      rcases List.mem_append.1 hr with hr | hr
      · obtain ⟨c, hc, rfl⟩ := List.mem_map.1 hr
        have := inbox_letters c hc
        exact .inl (by omega)
      · exact hrr r hr
    rw [hw, hin] at h3 ⊢
    have hv := valid_enc _ hsn
    have hlen : (encL (inboxL.map UInt8.toNat ++ rr)).length ≤ 197 := by
      rw [isName_enc _ hsn, Bool.and_eq_true] at h3
      have := ng_bytes _ 1 0 h3.2
      omega
    rw [wire_of _ hlen hv h3, writeName_enc _ hsn, wn_plain _ _ (letters_pr inboxL (fun c hc => .inl (inbox_letters c hc))), map_back]
    rw [writeName_enc rs hs, hrs, wn_plain _ _ (letters_pr f hfl), map_back] at h2
    refine ⟨_, rfl, ?_, .inr ⟨by rw [← h2]; simp; omega, by simp [inboxL], by rw [List.take_left' (by rfl)], ?_⟩⟩
    · rw [← h2]
      simp only [same, lower, List.map_append] at *
      rw [hlow]
      simp
    · rw [← h2, List.drop_left' (by rfl), List.drop_left' h5]
end Go.Proofs.YtclegocofiigiabDoor
