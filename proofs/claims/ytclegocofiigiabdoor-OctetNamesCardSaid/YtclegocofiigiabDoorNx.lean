/- Plain mathematics: the reference's names. -/
import Derived.Test.YtclegocofiigiabDoorNw
namespace Go.Proofs.YtclegocofiigiabDoor

def badB (c : UInt8) : Bool := decide (c.toNat < 32) || c.toNat == 127 || c.toNat == 37 || c.toNat == 42
def endB (lv n : Nat) : Bool := fitsI (n : Int) && decide (lv ≤ 6)
def nb : List UInt8 → Nat → Nat → Bool
  | [], lv, n => endB lv n
  | c :: r, lv, n => if c = 47 then endB lv n && nb r (lv + 1) 0 else !badB c && nb r lv (n + 1)
theorem nb_hi : ∀ (h : List UInt8), (∀ c ∈ h, 128 ≤ c.toNat) → ∀ r lv n, nb (h ++ r) lv n = nb r lv (n + h.length) := by
  intro h
  induction h with
  | nil => intro _ r lv n; rfl
  | cons c h ih =>
    intro hh r lv n
    have hc := hh c (by simp)
    rw [List.cons_append, nb, if_neg (by intro e; subst e; revert hc; decide), ih (fun x hx => hh x (by simp [hx]))]
    have : badB c = false := by unfold badB; simp; omega
    rw [this]
    simp only [Bool.not_false, Bool.true_and, List.length_cons]
    congr 1; omega
theorem nb_enc : ∀ (rs : List Nat), (∀ r ∈ rs, sc r) → ∀ lv n, nb (encL rs) lv n = ng rs lv n := by
  intro rs
  induction rs with
  | nil => intro _ lv n; show nb [] lv n = _; rw [nb, ng, endB, Bool.and_comm]
  | cons r rs ih =>
    intro h lv n
    have hrs : ∀ x ∈ rs, sc x := fun x hx => h x (by simp [hx])
    rw [encL_cons, ng]
    rcases en_shape r (h r (by simp)) with ⟨h1, h2⟩ | ⟨h1, h2⟩
    · rw [h2, List.cons_append, List.nil_append, nb]
      by_cases h47 : r = 47
      · subst h47
        rw [if_pos (by decide), if_pos rfl, ih hrs, endB]
        cases hg : ng rs (lv + 1) 0 with
        | false => simp
        | true => have := ng_lv _ _ _ hg; simp; omega
      · rw [if_neg (by intro e; apply h47; have := congrArg UInt8.toNat e; rw [on r (by omega)] at this; exact this), if_neg h47, ih hrs]
        have : badB (UInt8.ofNat r) = badR r := by unfold badB badR; rw [on r (by omega)]
        rw [this]; rfl
    · rw [nb_hi _ h2, ih hrs, if_neg (by omega)]
      have : badR r = false := by unfold badR; simp; omega
      rw [this]; simp
def named (l : List UInt8) : Bool := nb l 1 0 && (withInbox l == l)
theorem named_enc (rs : List Nat) (h : ∀ r ∈ rs, sc r) : named (encL rs) = isName (encL rs) := by
  rw [isName_enc rs h, named, nb_enc rs h, Bool.and_comm]
/-- Runs. -/
theorem wn_run : ∀ (run rest acc : List Nat), (∀ r ∈ run, ¬ prN r) → (∀ r ∈ rest.head?, prN r) → wn (run ++ rest) acc = runS (acc ++ run) ++ wn rest [] := by
  intro run
  induction run with
  | nil =>
    intro rest acc _ hr
    rw [List.nil_append, List.append_nil]
    cases rest with
    | nil => simp [wn, runS]
    | cons r rest =>
      have : prN r := hr r (by simp)
      rw [wn, wn, if_pos this, if_pos this]; simp [runS]
  | cons r run ih =>
    intro rest acc h hr
    rw [List.cons_append, wn, if_neg (h r (by simp)), ih rest (acc ++ [r]) (fun x hx => h x (by simp [hx])) hr]
    simp
theorem wn_one (r : Nat) (rest : List Nat) (h : prN r) : wn (r :: rest) [] = (UInt8.ofNat r :: (if r = 38 then [45] else [])) ++ wn rest [] := by
  rw [wn, if_pos h]; simp [runS]
def slc (c : UInt8) : UInt8 := if c = 47 then 44 else c
def cms (c : UInt8) : UInt8 := if c = 44 then 47 else c
theorem name_mail : ∀ i, i < 64 → slc (bt mailL i) = bt nameL i ∧ cms (bt nameL i) = bt mailL i := by
  have : ∀ i : Fin 64, slc (bt mailL i.val) = bt nameL i.val ∧ cms (bt nameL i.val) = bt mailL i.val := by decide +kernel
  exact fun i hi => this ⟨i, hi⟩
theorem pack_slc (l : List UInt8) : (pack l mailL).map slc = pack l nameL := by
  unfold pack
  rw [List.map_map]
  apply List.map_congr_left
  intro i hi
  exact (name_mail i (six_lt64 l i hi)).1
theorem pack_cms (l : List UInt8) : (pack l nameL).map cms = pack l mailL := by
  unfold pack
  rw [List.map_map]
  apply List.map_congr_left
  intro i hi
  exact (name_mail i (six_lt64 l i hi)).2
theorem loose_pack (l : List UInt8) : loose64 (pack l mailL) = l := by
  unfold loose64
  have := takeWhile_pad (pack l mailL) 0 (fun c hc => by obtain ⟨i, hi, rfl⟩ := pack_mem l mailL c hc; exact mail_ne i hi)
  rw [List.replicate_zero, List.append_nil] at this
  rw [cut_take, this]
  exact pack_back mailL mail_ok l
/-- The reference's UTF-8. -/
def utfL (v : Nat) : List UInt8 :=
  if v < 128 then [UInt8.ofNat v]
  else if v < 2048 then [UInt8.ofNat (192 + v / 64), UInt8.ofNat (128 + v % 64)]
  else if v < 65536 then [UInt8.ofNat (224 + v / 4096), UInt8.ofNat (128 + v / 64 % 64), UInt8.ofNat (128 + v % 64)]
  else [UInt8.ofNat (240 + v / 262144), UInt8.ofNat (128 + v / 4096 % 64), UInt8.ofNat (128 + v / 64 % 64), UInt8.ofNat (128 + v % 64)]
theorem utf_en (v : Nat) (h : sc v) : utfL v = en v := by
  have hm := sc_lt v h
  unfold utfL
  split
  · rw [en1 v (by omega)]
  · split
    · rw [en2 v (by omega) (by omega)]
    · split
      · rw [en3 v (by omega) (by omega) h]
      · rw [en4 v (by omega) hm]
theorem utf_len (v : Nat) : (utfL v).length ≤ 4 := by
  unfold utfL; repeat' split
  all_goals simp
def vB (u : List UInt8) (k : Nat) : Nat := 256 * (bt u k).toNat + (bt u (k + 1)).toNat
def hiB (v : Nat) : Bool := decide (55296 ≤ v) && decide (v < 56320)
def up2 (u : List UInt8) : Nat → Nat → List UInt8
  | 0, _ => []
  | f + 1, k => if k + 1 < u.length then
      (if hiB (vB u k) = true ∧ k + 3 < u.length then (if 65536 + (vB u k - 55296) * 1024 + vB u (k + 2) - 56320 ≤ 1114111 then utfL (65536 + (vB u k - 55296) * 1024 + vB u (k + 2) - 56320) else []) ++ up2 u f (k + 4)
      else utfL (vB u k) ++ up2 u f (k + 2)) else []
theorem up2_len (u : List UInt8) : ∀ f k, (up2 u f k).length ≤ 4 * f := by
  intro f
  induction f with
  | zero => intro k; simp [up2]
  | succ f ih =>
    intro k
    rw [up2]
    split
    · split
      · rw [List.length_append]
        have h1 := ih (k + 4)
        split
        · have := utf_len (65536 + (vB u k - 55296) * 1024 + vB u (k + 2) - 56320); omega
        · simp; omega
      · rw [List.length_append]
        have h1 := ih (k + 2)
        have := utf_len (vB u k); omega
    · simp
def unrunL (s : List UInt8) : List UInt8 := up2 (loose64 (s.map cms)) (loose64 (s.map cms)).length 0
theorem vB_bt (pre : List UInt8) (r : Nat) (hr : r < 65536) (t : List UInt8) : vB (pre ++ (unit8 r ++ t)) pre.length = r := by
  unfold vB
  have h0 : bt (pre ++ (unit8 r ++ t)) pre.length = UInt8.ofNat (r / 256) := by
    unfold bt; rw [List.getElem?_append_right (Nat.le_refl _)]; simp [unit8]
  have h1 : bt (pre ++ (unit8 r ++ t)) (pre.length + 1) = UInt8.ofNat r := by
    unfold bt; rw [List.getElem?_append_right (by omega)]; simp [unit8]
  rw [h0, h1]
  simp; omega
theorem up2_enc : ∀ (rs : List Nat), (∀ r ∈ rs, sc r) → ∀ (pre : List UInt8) (f : Nat), (rs.flatMap pairOf).length ≤ f → up2 (pre ++ rs.flatMap pairOf) f pre.length = encL rs := by
  intro rs
  induction rs with
  | nil =>
    intro _ pre f _
    cases f with
    | zero => rfl
    | succ f => rw [up2, if_neg (by simp)]; rfl
  | cons r rs ih =>
    intro h pre f hf
    have hs := h r (by simp)
    have hr := hs
    have hrs : ∀ x ∈ rs, sc x := fun x hx => h x (by simp [hx])
    have hm := sc_lt r hr
    unfold sc at hr
    rw [List.flatMap_cons, List.length_append] at hf
    rw [List.flatMap_cons, encL_cons]
    rcases Nat.lt_or_ge r 65536 with h1 | h1
    · have hp : pairOf r = unit8 r := by unfold pairOf; rw [if_neg (by omega)]
      rw [hp] at hf ⊢
      have hl : (unit8 r).length = 2 := rfl
      rw [hl] at hf
      obtain ⟨f, rfl⟩ : ∃ g, f = g + 1 := ⟨f - 1, by omega⟩
      have hu := vB_bt pre r h1 (rs.flatMap pairOf)
      rw [up2, if_pos (by simp [unit8]), hu, if_neg (by unfold hiB; simp; omega)]
      have e1 : pre ++ (unit8 r ++ rs.flatMap pairOf) = (pre ++ unit8 r) ++ rs.flatMap pairOf := by simp
      have e2 : pre.length + 2 = (pre ++ unit8 r).length := by simp [unit8]
      rw [e1, e2, ih hrs (pre ++ unit8 r) f (by omega), utf_en r hs]
    · have hp : pairOf r = unit8 (55296 + (r - 65536) / 1024) ++ unit8 (56320 + (r - 65536) % 1024) := by unfold pairOf; rw [if_pos h1]
      rw [hp] at hf ⊢
      have hl : (unit8 (55296 + (r - 65536) / 1024) ++ unit8 (56320 + (r - 65536) % 1024)).length = 4 := rfl
      rw [hl] at hf
      obtain ⟨f, rfl⟩ : ∃ g, f = g + 1 := ⟨f - 1, by omega⟩
      have hu := vB_bt pre (55296 + (r - 65536) / 1024) (by omega) (unit8 (56320 + (r - 65536) % 1024) ++ rs.flatMap pairOf)
      have hv := vB_bt (pre ++ unit8 (55296 + (r - 65536) / 1024)) (56320 + (r - 65536) % 1024) (by omega) (rs.flatMap pairOf)
      have e0 : (pre ++ unit8 (55296 + (r - 65536) / 1024)).length = pre.length + 2 := by simp [unit8]
      have e1 : (pre ++ unit8 (55296 + (r - 65536) / 1024)) ++ (unit8 (56320 + (r - 65536) % 1024) ++ rs.flatMap pairOf) = pre ++ (unit8 (55296 + (r - 65536) / 1024) ++ (unit8 (56320 + (r - 65536) % 1024) ++ rs.flatMap pairOf)) := by simp
      rw [e0, e1] at hv
      rw [List.append_assoc, up2, if_pos (by simp [unit8]), hu, hv, if_pos ⟨by unfold hiB; simp; omega, by simp [unit8]⟩]
      have e2 : 65536 + (55296 + (r - 65536) / 1024 - 55296) * 1024 + (56320 + (r - 65536) % 1024) - 56320 = r := by omega
      have e3 : pre ++ (unit8 (55296 + (r - 65536) / 1024) ++ (unit8 (56320 + (r - 65536) % 1024) ++ rs.flatMap pairOf)) = (pre ++ (unit8 (55296 + (r - 65536) / 1024) ++ unit8 (56320 + (r - 65536) % 1024))) ++ rs.flatMap pairOf := by simp
      have e4 : pre.length + 4 = (pre ++ (unit8 (55296 + (r - 65536) / 1024) ++ unit8 (56320 + (r - 65536) % 1024))).length := by simp [unit8]
      rw [e2, if_pos hm, e3, e4, ih hrs _ f (by omega), utf_en r hs]
theorem unrun_pack (rs : List Nat) (h : ∀ r ∈ rs, sc r) : unrunL (pack (rs.flatMap pairOf) nameL) = encL rs := by
  unfold unrunL
  rw [pack_cms, loose_pack]
  have := up2_enc rs h [] (rs.flatMap pairOf).length (Nat.le_refl _)
  simpa using this
/-- What the reference guesses. -/
def gp (run : List UInt8) : List UInt8 := if run = [] then [38] else unrunL run
def gs : List UInt8 → Nat → List UInt8
  | [], _ => []
  | _ :: r, n + 1 => gs r n
  | c :: r, 0 => if c = 38 then gp (r.take ((dash r).getD r.length)) ++ gs r ((dash r).getD r.length + 1) else c :: gs r 0
theorem gs_skip (n : Nat) : ∀ l : List UInt8, gs l n = gs (l.drop n) 0 := by
  induction n with
  | zero => intro l; rfl
  | succ n ih =>
    intro l
    cases l with
    | nil => rfl
    | cons c r => rw [gs, ih r]; rfl
theorem gs_run (acc : List Nat) (h : ∀ r ∈ acc, sc r) (rest : List UInt8) : gs (runS acc ++ rest) 0 = encL acc ++ gs rest 0 := by
  unfold runS
  by_cases ha : acc = []
  · rw [if_pos ha, ha]; rfl
  · rw [if_neg ha]
    have hne : acc.flatMap pairOf ≠ [] := by
      cases acc with
      | nil => exact absurd rfl ha
      | cons r rs => rw [List.flatMap_cons]; unfold pairOf unit8; split <;> simp
    have hd : dash (pack (acc.flatMap pairOf) nameL ++ [45] ++ rest) = some (pack (acc.flatMap pairOf) nameL).length := by
      rw [List.append_assoc]
      refine dash_app _ _ (fun c hc => ?_)
      obtain ⟨i, hi, rfl⟩ := pack_mem _ _ c hc
      exact (name_ne i hi).1
    rw [List.cons_append, gs, if_pos rfl, hd, Option.getD_some, gs_skip, List.append_assoc, List.take_left]
    have e1 : (pack (acc.flatMap pairOf) nameL ++ ([45] ++ rest)).drop ((pack (acc.flatMap pairOf) nameL).length + 1) = rest := by
      rw [List.drop_append]; simp
    rw [e1]
    unfold gp
    rw [if_neg (pack_ne _ _ hne), unrun_pack acc h]
theorem gs_back : ∀ (rs : List Nat), (∀ r ∈ rs, sc r) → ∀ acc, (∀ r ∈ acc, sc r) → gs (wn rs acc) 0 = encL acc ++ encL rs := by
  intro rs
  induction rs with
  | nil =>
    intro _ acc ha
    rw [wn]
    have := gs_run acc ha []
    simpa [gs, encL] using this
  | cons r rs ih =>
    intro h acc ha
    have hr := h r (by simp)
    have hrs : ∀ x ∈ rs, sc x := fun x hx => h x (by simp [hx])
    rw [wn]
    by_cases hp : prN r
    · rw [if_pos hp, gs_run acc ha, encL_cons, en1 r (by unfold prN at hp; omega)]
      congr 1
      have h0 := ih hrs [] (by simp)
      by_cases h38 : r = 38
      · subst h38
        rw [if_pos rfl]
        show gs (38 :: 45 :: wn rs []) 0 = _
        rw [gs, if_pos rfl, dash, if_pos rfl, Option.getD_some, gs_skip]
        show gp [] ++ gs (wn rs []) 0 = _
        rw [h0]; rfl
      · rw [if_neg h38]
        show gs (UInt8.ofNat r :: wn rs []) 0 = _
        rw [gs, if_neg (by intro e; apply h38; have := congrArg UInt8.toNat e; rw [on r (by unfold prN at hp; omega)] at this; exact this), h0]
        rfl
    · rw [if_neg hp, ih hrs (acc ++ [r]) (by
        intro x hx
        rcases List.mem_append.1 hx with hx | hx
        · exact ha x hx
        · simp at hx; subst hx; exact hr)]
      rw [encL_append, encL_cons]; simp [encL]
theorem gs_wire (l : List UInt8) (h : (wire l).2 = 0) : gs (wire l).1 0 = l := by
  obtain ⟨h1, h2, h3, h4⟩ := wire_ok l h
  rw [h4]
  obtain ⟨rs, hs, rfl⟩ := enc_valid l h2
  show gs (writeName (encL rs)) 0 = _
  rw [writeName_enc rs hs, gs_back rs hs [] (by simp)]; rfl
/-- INBOX in any case. -/
theorem first_app (f rest : List UInt8) (hf : ∀ c ∈ f, c ≠ 47) (hr : rest = [] ∨ ∃ b, rest = 47 :: b) : first (f ++ rest) = f := by
  rw [first_eq]
  induction f with
  | nil => rcases hr with rfl | ⟨b, rfl⟩ <;> simp
  | cons c f ih =>
    rw [List.cons_append, List.takeWhile_cons, if_pos (by simpa using hf c (by simp)), ih (fun x hx => hf x (by simp [hx]))]
theorem inb_letters (f : List UInt8) (h : same f inboxL = true) : ∀ c ∈ f, (65 ≤ c.toNat ∧ c.toNat ≤ 90) ∨ (97 ≤ c.toNat ∧ c.toNat ≤ 122) :=
  same_pr f inboxL (by simpa [same] using h) inbox_letters
theorem letter_ne (c : UInt8) (h : (65 ≤ c.toNat ∧ c.toNat ≤ 90) ∨ (97 ≤ c.toNat ∧ c.toNat ≤ 122)) : c ≠ 47 ∧ c ≠ 38 := by
  constructor <;> (rintro rfl; revert h; decide)
theorem inbox_app (f rest : List UInt8) (h : same f inboxL = true) (hr : rest = [] ∨ ∃ b, rest = 47 :: b) : withInbox (f ++ rest) = inboxL ++ rest := by
  have e := first_app f rest (fun c hc => (letter_ne c (inb_letters f h c hc)).1) hr
  unfold withInbox
  rw [e, if_pos h, List.drop_left]
theorem rdn_plain : ∀ (f rest : List UInt8), (∀ c ∈ f, c ≠ 38) → rdn (f ++ rest) 0 = f ++ rdn rest 0 := by
  intro f
  induction f with
  | nil => intro rest _; rfl
  | cons c f ih =>
    intro rest h
    rw [List.cons_append, rdn, if_neg (h c (by simp)), ih rest (fun x hx => h x (by simp [hx]))]; rfl
theorem rdn_rest (rest : List UInt8) (h : rest = [] ∨ ∃ b, rest = 47 :: b) : rdn rest 0 = [] ∨ ∃ b, rdn rest 0 = 47 :: b := by
  rcases h with rfl | ⟨b, rfl⟩
  · left; rfl
  · right; exact ⟨rdn b 0, by rw [rdn, if_neg (by decide)]⟩
theorem wn_rest (rr : List Nat) (rest : List UInt8) (he : encL rr = rest) (hs : ∀ r ∈ rr, sc r) (h : rest = [] ∨ ∃ b, rest = 47 :: b) : wn rr [] = [] ∨ ∃ b, wn rr [] = 47 :: b := by
  rcases h with h | ⟨b, h⟩
  · left
    rw [h] at he
    rw [(encL_eq_nil rr).1 he]; rfl
  · right
    rw [h] at he
    obtain ⟨ra, rb, e1, e2, e3⟩ := enc_split rr hs [] 47 b he (by decide)
    rw [(encL_eq_nil ra).1 e2] at e1
    rw [e1]
    exact ⟨wn rb [], by rw [List.nil_append]; exact wn_slash [] rb []⟩
theorem ascii_split (a : List UInt8) : (∀ c ∈ a, c.toNat < 128) → ∀ (xs : List Nat), (∀ r ∈ xs, sc r) → ∀ b, encL xs = a ++ b → ∃ rr, (∀ r ∈ rr, sc r) ∧ encL rr = b ∧ xs = a.map UInt8.toNat ++ rr := by
  induction a with
  | nil => intro _ xs hx b hb; exact ⟨xs, hx, hb, rfl⟩
  | cons c a ih =>
    intro ha xs hx b hb
    obtain ⟨ra, rb, e1, e2, e3⟩ := enc_split xs hx [] c (a ++ b) hb (ha c (by simp))
    have : ra = [] := (encL_eq_nil ra).1 e2
    subst this
    obtain ⟨rr, k1, k2, k3⟩ := ih (fun x hx' => ha x (by simp [hx'])) rb (fun r hr => hx r (by rw [e1]; simp [hr])) b e3
    exact ⟨rr, k1, k2, by rw [e1, k3]; rfl⟩
theorem write_letters (f : List UInt8) (hf : ∀ c ∈ f, (65 ≤ c.toNat ∧ c.toNat ≤ 90) ∨ (97 ≤ c.toNat ∧ c.toNat ≤ 122)) (rr : List Nat) (hs : ∀ r ∈ rr, sc r) : writeName (f ++ encL rr) = f ++ wn rr [] := by
  have e : f ++ encL rr = encL (f.map UInt8.toNat ++ rr) := by rw [encL_append, ascii_enc f (fun c hc => by have := hf c hc; omega)]
  rw [e, writeName_enc _ (by
    intro r hr
    rcases List.mem_append.1 hr with hr | hr
    · obtain ⟨c, hc, rfl⟩ := List.mem_map.1 hr
      have := hf c hc
      exact .inl (by omega)
    · exact hs r hr), wn_plain _ _ (letters_pr f hf), map_back]
/-- How the text of a name that is sent opens. -/
theorem inbox_parts (l : List UInt8) : withInbox l = l ∨ ∃ f rest, same f inboxL = true ∧ (rest = [] ∨ ∃ b, rest = 47 :: b) ∧ l = f ++ rest ∧ withInbox l = inboxL ++ rest := by
  cases hc : same (first l) inboxL with
  | false => left; unfold withInbox; rw [hc]; rfl
  | true =>
    right
    refine ⟨first l, l.drop (first l).length, hc, after_first l, first_drop l, ?_⟩
    unfold withInbox; rw [if_pos hc]
theorem same_refl (l : List UInt8) : same l l = true := by simp [same]
theorem wires_inbox (l : List UInt8) (h : (fromWire l).2 = 0) : wire (fromWire l).1 = (withInbox l, 0) := by
  obtain ⟨v, h1, h2, h3⟩ := wires_read l h
  rw [h1]
  congr 1
  obtain ⟨k1, k2, k3, k4⟩ := from_ok l h
  have hpr := writeName_pr (readName l)
  rw [k2] at hpr
  have hn := (wire_ok (fromWire l).1 (by rw [h1]))
  rw [h1] at hn
  have hvn : v = writeName (fromWire l).1 := by have := hn.2.2.2; exact congrArg Prod.fst this
  rw [k4] at hvn
  simp only at hvn
  rcases inbox_parts (readName l) with hw | ⟨f, rest, hf, hr, hrd, hw⟩
  · rw [hw, k2] at hvn
    rcases inbox_parts l with hl | ⟨f, rest, hf, hr, hrd, hl⟩
    · rw [hl]; exact hvn
    · have hpl := rdn_plain f rest (fun c hc => (letter_ne c (inb_letters f hf c hc)).2)
      rw [← hrd] at hpl
      change readName l = f ++ rdn rest 0 at hpl
      have := inbox_app f (rdn rest 0) hf (rdn_rest rest hr)
      rw [← hpl, hw, hpl] at this
      have := List.append_cancel_right this
      rw [hvn, hl, hrd, this]
  · rw [hw] at hvn
    have hfl := inb_letters f hf
    obtain ⟨rs, hs, ht⟩ := rdn_valid l (fun c hc => by have := (hpr c hc).2; omega) 0
    change readName l = encL rs at ht
    obtain ⟨rr, r1, r2, r3⟩ := ascii_split f (fun c hc => by have := hfl c hc; omega) rs hs rest (by rw [← ht, hrd])
    rw [hrd, ← r2, write_letters f hfl rr r1] at k2
    rw [← r2, write_letters inboxL (fun c hc => .inl (inbox_letters c hc)) rr r1] at hvn
    rw [hvn, ← k2, inbox_app f _ hf (wn_rest rr rest r2 r1 hr)]
theorem from_inbox (l : List UInt8) (h : (fromWire (withInbox l)).2 = 0) : fromWire l = fromWire (withInbox l) := by
  rcases inbox_parts l with hw | ⟨f, rest, hf, hr, hrd, hw⟩
  · rw [hw]
  · obtain ⟨k1, k2, k3, k4⟩ := from_ok (withInbox l) h
    rw [k4]
    have hpr := writeName_pr (readName (withInbox l))
    rw [k2, hw] at hpr
    have hin := inbox_letters
    have e1 : readName (withInbox l) = inboxL ++ rdn rest 0 := by
      rw [hw]; exact rdn_plain inboxL rest (fun c hc => (letter_ne c (.inl (hin c hc))).2)
    have e2 : readName l = f ++ rdn rest 0 := by
      rw [hrd]; exact rdn_plain f rest (fun c hc => (letter_ne c (inb_letters f hf c hc)).2)
    obtain ⟨rr, r1, r2⟩ := rdn_valid rest (fun c hc => by have := (hpr c (by simp [hc])).2; omega) 0
    have w1 := write_letters inboxL (fun c hc => .inl (hin c hc)) rr r1
    have w2 := write_letters f (inb_letters f hf) rr r1
    rw [← r2] at w1 w2
    rw [e1, w1, hw] at k2
    have hre : wn rr [] = rest := List.append_cancel_left k2
    have i1 := inbox_app inboxL (rdn rest 0) (same_refl _) (rdn_rest rest hr)
    have i2 := inbox_app f (rdn rest 0) hf (rdn_rest rest hr)
    have hlen : l.length ≤ 4096 := by
      have h5 := same_len5 f hf
      rw [hw] at k1
      rw [hrd]
      simp [inboxL] at k1 ⊢
      omega
    rw [e1, i1] at k3 ⊢
    unfold fromWire
    rw [e2, w2, hre, if_neg (by omega), if_neg (by rw [hrd]; simp), i2, if_neg (by simp [k3])]
/-- The reference's reader. -/
def refFrom (l : List UInt8) : List UInt8 × Int :=
  if 4096 < l.length then ([], 2) else if wire (gs (withInbox l) 0) = (withInbox l, 0) then (gs (withInbox l) 0, 0) else ([], 11)
theorem from_11 (l : List UInt8) (hl : ¬ 4096 < l.length) (h : (fromWire l).2 ≠ 0) : fromWire l = ([], 11) := by
  unfold fromWire at h ⊢
  rw [if_neg hl] at h ⊢
  split
  · rfl
  · rename_i h2
    rw [if_neg h2] at h
    split
    · rfl
    · rename_i h3
      rw [if_neg h3] at h
      exact absurd rfl h
theorem refFrom_eq (l : List UInt8) : refFrom l = fromWire l := by
  unfold refFrom
  by_cases hl : 4096 < l.length
  · rw [if_pos hl]; unfold fromWire; rw [if_pos hl]
  · rw [if_neg hl]
    by_cases hf : (fromWire l).2 = 0
    · have h1 := wires_inbox l hf
      have h2 := gs_wire (fromWire l).1 (by rw [h1])
      rw [h1] at h2
      simp only at h2
      rw [h2, if_pos h1]
      exact Prod.ext rfl hf.symm
    · by_cases hw : wire (gs (withInbox l) 0) = (withInbox l, 0)
      · have h1 := wires_back (gs (withInbox l) 0) (by rw [hw])
        rw [hw] at h1
        have h2 := from_inbox l (by rw [h1.1])
        rw [h1.1] at h2
        rw [h2] at hf
        exact absurd rfl hf
      · rw [if_neg hw, from_11 l hl hf]
end Go.Proofs.YtclegocofiigiabDoor
