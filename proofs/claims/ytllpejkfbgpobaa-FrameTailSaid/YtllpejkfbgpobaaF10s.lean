/- frame: numbers as an argument; row. -/
import Derived.Test.YtllpejkfbgpobaaF10k
import Derived.Test.YtllpejkfbgpobaaF10r
namespace Go.Proofs.Ytllpejkfbgpobaa
open Go.RowKit

def Ints (w : World) (v : Value) (l : List Int) : Prop :=
  (l = [] ∧ ∃ ao cap, v = .slice ao 0 cap ∧ (ao = none → cap = 0)) ∨ ∃ b off cap, v = .slice (some ⟨b, off, none⟩) l.length cap ∧ l.length ≤ 17592186044416 ∧ b < w.heap.size ∧ ∀ i, i < l.length → w.cell? ⟨b, off + i, none⟩ = some (.int .i64 (l.getD i 0))
theorem Ints.on {w w' : World} {v : Value} {l : List Int} (h : Ints w v l) (hb : Below w.heap.size w w') : Ints w' v l := by
  rcases h with h | ⟨b, off, cap, rfl, h0, h1, h2⟩
  · exact .inl h
  · refine .inr ⟨b, off, cap, rfl, h0, Nat.lt_of_lt_of_le h1 hb.size, fun i hi => ?_⟩
    rw [hb.cell (p := ⟨b, off + i, none⟩) h1]
    exact h2 i hi

/-- What row has made: frames one behind the other. -/
structure RowG (first : Int) (bs : List ByteArray) (G : List Fr) : Prop where
  rw' : Rw 0 G
  num : ∀ (i : Nat) (f : Fr), G[i]? = some f → (f.num : Int) = first + (i : Int) ∧ f.body = L (bs.getD i ByteArray.empty)
  short : (laid G).length ≤ 4195304
  le : G.length ≤ bs.length
theorem S_append (l : List UInt8) (b : ByteArray) : S l ++ b = S (l ++ L b) := by
  apply ByteArray.ext
  unfold S L
  simp [ByteArray.data_append]
theorem Rw.snoc : ∀ (G : List Fr) (i : Nat) (f : Fr), Rw i G → okF f.kind f.num f.body → f.at' = i + (laid G).length → (∀ p, G.getLast? = some p → f.num = p.num + 1) → Rw i (G ++ [f]) := by
  intro G
  induction G with
  | nil => intro i f _ h1 h2 _; exact ⟨h1, by simpa [laid] using h2, fun g hg => by simp at hg, trivial⟩
  | cons g G ih =>
    intro i f hr h1 h2 h3
    obtain ⟨q1, q2, q3, q4⟩ := hr
    have hz : g.ends = i + (frm g.kind g.num g.body).length := by rw [frm_length]; unfold Fr.ends; omega
    refine ⟨q1, q2, fun p hp => ?_, ih _ f q4 h1 ?_ ?_⟩
    · cases G with
      | nil => simp at hp; subst hp; exact h3 g rfl
      | cons a G => simp at hp; exact q3 p (by simpa using hp)
    · rw [h2, hz, laid_cons, List.length_append]; omega
    · intro p hp
      apply h3
      cases G with
      | nil => simp at hp
      | cons a G => simpa using hp
theorem RowG.snoc {first : Int} {bs : List ByteArray} {G : List Fr} (h : RowG first bs G) {kd : Nat} {s : ByteArray} (hs : bs.getD G.length ByteArray.empty = s) (hlt : G.length < bs.length) (he : encE kd (first + (G.length : Int)) (L s) = 0) (hl : (laid G).length + (s.size + 18) ≤ 4195304) :
    RowG first bs (G ++ [⟨kd, (first + (G.length : Int)).toNat, (laid G).length, L s⟩]) ∧ laid (G ++ [⟨kd, (first + (G.length : Int)).toNat, (laid G).length, L s⟩]) = laid G ++ frm kd (first + (G.length : Int)).toNat (L s) := by
  obtain ⟨h1, h2, h3⟩ := encE_ok.1 he
  rw [Int.toNat_natCast] at h3
  have el : laid (G ++ [⟨kd, (first + (G.length : Int)).toNat, (laid G).length, L s⟩]) = laid G ++ frm kd (first + (G.length : Int)).toNat (L s) := by rw [laid_append]; simp [laid]
  refine ⟨⟨Rw.snoc G 0 _ h.rw' h3 (by simp) (fun p hp => ?_), fun i f hf => ?_, ?_, ?_⟩, el⟩
  · have hne : G ≠ [] := by intro e; subst e; simp at hp
    have hlen : 0 < G.length := List.length_pos_iff.2 hne
    have hg : G[G.length - 1]? = some p := by rw [← List.getLast?_eq_getElem?]; exact hp
    have := (h.num _ p hg).1
    show (first + (G.length : Int)).toNat = p.num + 1
    omega
  · by_cases hi : i < G.length
    · rw [List.getElem?_append_left hi] at hf
      exact h.num i f hf
    · have hlt2 : i < (G ++ [(⟨kd, (first + (G.length : Int)).toNat, (laid G).length, L s⟩ : Fr)]).length := (List.getElem?_eq_some_iff.1 hf).1
      simp at hlt2
      obtain rfl : i = G.length := by omega
      simp at hf
      subst hf
      exact ⟨by show (((first + (G.length : Int)).toNat : Nat) : Int) = _; omega, by rw [hs]⟩
  · rw [el, List.length_append, frm_length, L_length]; exact hl
  · rw [List.length_append]; exact hlt

set_option maxHeartbeats 4000000 in
theorem row_any (first : Int) (vb : Value) (bs : List ByteArray) (vk : Value) (ks : List Int) (w : World) (hf0 : -9223372036854775808 ≤ first) (hf1 : first ≤ 9223372036854775807)
    (hb : Strs w vb bs) (hz : ∀ i, i < bs.length → (bs.getD i ByteArray.empty).size ≤ 140737488355328) (hk : Ints w vk ks) (hkb : ∀ n ∈ ks, -9223372036854775808 ≤ n ∧ n ≤ 9223372036854775807) :
    Calls Try.prog 16 #[.int .i64 first, vb, vk] w fun e w' => ∃ (s : ByteArray) (ve : Value) (ok : Bool), e = .returned (.tuple #[.string s, ve, .bool ok]) ∧ Below w.heap.size w w' ∧
      (ok = true → ∃ G, RowG first bs G ∧ L s = laid G ∧ Two w.heap.size (.slice none 0 0) [] ve (G.map Fr.ends) w') := by
  have HBs := Lib.hid (fun w' (h : Below w.heap.size w w') => hb.on h)
  have HKs := Lib.hid (fun w' (h : Below w.heap.size w w') => hk.on h)
  have HZ := Lib.hid hz
  have HKB := Lib.hid hkb
  have hvb : ∃ ao cap, vb = .slice ao bs.length cap := by
    rcases hb with ⟨rfl, ao, cap, rfl⟩ | ⟨b, off, cap, rfl, _⟩
    · exact ⟨ao, cap, rfl⟩
    · exact ⟨_, cap, rfl⟩
  have hvk : ∃ ao cap, vk = .slice ao ks.length cap := by
    rcases hk with ⟨rfl, ao, cap, rfl, _⟩ | ⟨b, off, cap, rfl, _⟩
    · exact ⟨ao, cap, rfl⟩
    · exact ⟨_, cap, rfl⟩
  have hbl : bs.length ≤ 140737488355328 := by
    rcases hb with ⟨rfl, _⟩ | ⟨b, off, cap, _, h, _⟩
    · simp
    · exact h
  have hkl : ks.length ≤ 17592186044416 := by
    rcases hk with ⟨rfl, _⟩ | ⟨b, off, cap, _, h, _⟩
    · simp
    · exact h
  obtain ⟨ab, cb, rfl⟩ := hvb
  obtain ⟨ak, ck, rfl⟩ := hvk
  clear hb hk hz hkb
  go_enter Try.func16, Try.ntmps16
  go_wp2
  go_loopw [9, 10, 11] (fun v9 v10 v11 wr => ∃ (k : Nat) (G : List Fr), k ≤ 12 ∧ v11 = .int .i64 (k : Int) ∧ G.length = k ∧ v9 = .string (S (laid G)) ∧ RowG first bs G ∧ Two w.heap.size (.slice none 0 0) [] v10 (G.map Fr.ends) wr ∧ Below w.heap.size w wr) (fun _ _ v11 _ => 12 - (intOf v11).toNat)
  case atStart => exact ⟨0, [], by omega, rfl, rfl, rfl, ⟨trivial, fun i f h => by simp at h, by simp [laid], Nat.zero_le _⟩, Two.nil (Nat.le_refl _), Below.refl _ _⟩
  case round =>
    obtain ⟨k, G, hk12, rfl, hGk, rfl, hG, hT, hB⟩ := hrel
    have hkl2 : k ≤ bs.length := by have := hG.le; omega
    have hgl : (S (laid G)).size = (laid G).length := rfl
    have hshort := hG.short
    by_cases hd : k < bs.length ∧ k < 12
    · obtain ⟨hd1, hd2⟩ := hd
      have hsum : first + (k : Int) ≤ 9223372036854775807 := by
        rcases Nat.eq_zero_or_pos k with h0 | h0
        · subst h0; simpa using hf1
        · obtain ⟨p, hp⟩ : ∃ p, G[k - 1]? = some p := ⟨_, List.getElem?_eq_getElem (by omega)⟩
          have h1 := (hG.num _ p hp).1
          have h2 := (rw_length G 0 hG.rw' _ p hp).2.2.2.2.1
          omega
      have hsum0 : -9223372036854775808 ≤ first + (k : Int) := by omega
      obtain ⟨b, off, hsh, hcell⟩ : ∃ b off, ab = some ⟨b, off, none⟩ ∧ wr.cell? ⟨b, off + k, none⟩ = some (.string (bs.getD k ByteArray.empty)) := by
        rcases HBs.out wr hB with ⟨h, _⟩ | ⟨b, off, cap, h1, _, _, h2⟩
        · subst h; simp at hd1
        · cases h1; exact ⟨b, off, rfl, h2 k hd1⟩
      subst hsh
      have hzk := HZ.out k hd1
      obtain ⟨s, hs⟩ : ∃ s, s = bs.getD k ByteArray.empty := ⟨_, rfl⟩
      rw [← hs] at hcell hzk
      have HBD := Lib.hid hs
      have HG := Lib.hid hG
      have HT := Lib.hid hT
      have HB := Lib.hid hB
      have HGK := Lib.hid hGk
      have HGL : Hid ((G.map Fr.ends).length + 1 ≤ 1099511627776) := Lib.hid (by rw [List.length_map]; omega)
      clear hs hG hT hB
      obtain ⟨av, cv, rfl⟩ : ∃ ao cap, u10 = .slice ao k cap := by
        obtain ⟨ao, cap, e⟩ := HT.out.shape4
        rw [List.length_map, hGk] at e
        exact ⟨ao, cap, e⟩
      clear hGk
      by_cases hkk : k < ks.length
      · obtain ⟨b2, off2, hsh2, hcell2⟩ : ∃ b off, ak = some ⟨b, off, none⟩ ∧ wr.cell? ⟨b, off + k, none⟩ = some (.int .i64 (ks.getD k 0)) := by
          rcases HKs.out wr HB.out with ⟨h, _⟩ | ⟨b, off, cap, h1, _, _, h2⟩
          · subst h; simp at hkk
          · cases h1; exact ⟨b, off, rfl, h2 k hkk⟩
        subst hsh2
        have hkm := HKB.out (ks.getD k 0) (by rw [List.getD_eq_getElem?_getD, List.getElem?_eq_getElem hkk]; exact List.getElem_mem hkk)
        generalize ks.getD k 0 = x at *
        by_cases hx : x.tmod 2 = 0
        · have hEn := Lib.hid (fun W => Encode_any 2 (first + (k : Int)) s W hzk)
          by_cases he : encE 2 (first + (k : Int)) (L s) = 0
          · have hSz : (encS 2 (first + (k : Int)) (L s)).size = s.size + 18 := by unfold encS; rw [if_pos he, S_size, frm_length, L_length]
            have hLs : L (encS 2 (first + (k : Int)) (L s)) = frm 2 (first + (k : Int)).toNat (L s) := by unfold encS; rw [if_pos he]; rfl
            rw [he] at hEn
            have HE := Lib.hid he
            have HSZ := Lib.hid hSz
            have hfz : (encS 2 (first + (k : Int)) (L s)).size ≤ 2097170 := by have := (encE_ok.1 he).2.2.2.2.2; rw [L_length] at this; omega
            clear hSz
            have HLS := Lib.hid hLs
            clear hLs he
            generalize encS 2 (first + (k : Int)) (L s) = fb at *
            by_cases hbig : (4195304 : Int) < ((laid G).length : Int) + (fb.size : Int)
            · go_wp2_with (go_at_call 12; with_reducible refine (hEn.out _).mono ?_; rintro e w3 ⟨rfl, hb3⟩; have HB3 := Lib.hid hb3; clear hb3)
              go_ret3
              exact ⟨_, _, false, rfl, HB.out.trans (HB3.out.mono HB.out.size), fun hx => by cases hx⟩
            · have hsh : ((laid G).length : Int) + (fb.size : Int) ≤ 4195304 := by omega
              go_wp2_with (first | (go_at_call 12; with_reducible refine (hEn.out _).mono ?_; rintro e w3 ⟨rfl, hb3⟩; have HB3 := Lib.hid hb3; clear hb3) | (at_builtin; refine appN rfl (.tmp 64) (.tmp 67) rfl ((laid G).length + fb.size) _ (by omega) (HT.out.on HB3.out) rfl w3.heap.size rfl rfl HGL.out ?_; intro v4 w4 t4 b4; have T4 := Lib.hid t4; have B4 := Lib.hid b4; clear t4 b4))
              go_roundw
              case rel =>
                obtain ⟨R1, R2⟩ := HG.out.snoc (kd := 2) (s := s) (by rw [HGK.out]; exact HBD.out.symm) (by rw [HGK.out]; exact hd1) (by rw [HGK.out]; exact HE.out) (by have := HSZ.out; omega)
                rw [HGK.out] at R1 R2
                refine ⟨k + 1, _, by omega, by go_num, by rw [List.length_append, HGK.out]; rfl, ?_, R1, ?_, ?_⟩
                · rw [R2, S_append, HLS.out]
                · rw [List.map_append]
                  have e : Fr.ends ⟨2, (first + (k : Int)).toNat, (laid G).length, L s⟩ = (laid G).length + fb.size := by have := HSZ.out; unfold Fr.ends; dsimp only; rw [L_length]; omega
                  show Two _ _ _ _ (G.map Fr.ends ++ [Fr.ends ⟨2, (first + (k : Int)).toNat, (laid G).length, L s⟩]) _
                  rw [e]
                  exact T4.out
                · have b1 := HB.out.trans (HB3.out.mono HB.out.size)
                  exact (b1.alloc b1.size _).trans B4.out
              case measure => simp [intOf]; omega
          · have hne : ¬ encE 2 (first + (k : Int)) (L s) = 0 := he
            generalize encE 2 (first + (k : Int)) (L s) = ee at *
            go_wp2_with (go_at_call 12; with_reducible refine (hEn.out _).mono ?_; rintro e w3 ⟨rfl, hb3⟩; have HB3 := Lib.hid hb3; clear hb3)
            go_ret3
            exact ⟨_, _, false, rfl, HB.out.trans (HB3.out.mono HB.out.size), fun hx => by cases hx⟩
        · have hx' : (x.tmod 2 == 0) = false := by rw [beq_eq_false_iff_ne]; exact hx
          have hEn := Lib.hid (fun W => Encode_any 1 (first + (k : Int)) s W hzk)
          by_cases he : encE 1 (first + (k : Int)) (L s) = 0
          · have hSz : (encS 1 (first + (k : Int)) (L s)).size = s.size + 18 := by unfold encS; rw [if_pos he, S_size, frm_length, L_length]
            have hLs : L (encS 1 (first + (k : Int)) (L s)) = frm 1 (first + (k : Int)).toNat (L s) := by unfold encS; rw [if_pos he]; rfl
            rw [he] at hEn
            have HE := Lib.hid he
            have HSZ := Lib.hid hSz
            have hfz : (encS 1 (first + (k : Int)) (L s)).size ≤ 2097170 := by have := (encE_ok.1 he).2.2.2.2.2; rw [L_length] at this; omega
            clear hSz
            have HLS := Lib.hid hLs
            clear hLs he
            generalize encS 1 (first + (k : Int)) (L s) = fb at *
            by_cases hbig : (4195304 : Int) < ((laid G).length : Int) + (fb.size : Int)
            · go_wp2_with (go_at_call 12; with_reducible refine (hEn.out _).mono ?_; rintro e w3 ⟨rfl, hb3⟩; have HB3 := Lib.hid hb3; clear hb3)
              go_ret3
              exact ⟨_, _, false, rfl, HB.out.trans (HB3.out.mono HB.out.size), fun hx => by cases hx⟩
            · have hsh : ((laid G).length : Int) + (fb.size : Int) ≤ 4195304 := by omega
              go_wp2_with (first | (go_at_call 12; with_reducible refine (hEn.out _).mono ?_; rintro e w3 ⟨rfl, hb3⟩; have HB3 := Lib.hid hb3; clear hb3) | (at_builtin; refine appN rfl (.tmp 64) (.tmp 67) rfl ((laid G).length + fb.size) _ (by omega) (HT.out.on HB3.out) rfl w3.heap.size rfl rfl HGL.out ?_; intro v4 w4 t4 b4; have T4 := Lib.hid t4; have B4 := Lib.hid b4; clear t4 b4))
              go_roundw
              case rel =>
                obtain ⟨R1, R2⟩ := HG.out.snoc (kd := 1) (s := s) (by rw [HGK.out]; exact HBD.out.symm) (by rw [HGK.out]; exact hd1) (by rw [HGK.out]; exact HE.out) (by have := HSZ.out; omega)
                rw [HGK.out] at R1 R2
                refine ⟨k + 1, _, by omega, by go_num, by rw [List.length_append, HGK.out]; rfl, ?_, R1, ?_, ?_⟩
                · rw [R2, S_append, HLS.out]
                · rw [List.map_append]
                  have e : Fr.ends ⟨1, (first + (k : Int)).toNat, (laid G).length, L s⟩ = (laid G).length + fb.size := by have := HSZ.out; unfold Fr.ends; dsimp only; rw [L_length]; omega
                  show Two _ _ _ _ (G.map Fr.ends ++ [Fr.ends ⟨1, (first + (k : Int)).toNat, (laid G).length, L s⟩]) _
                  rw [e]
                  exact T4.out
                · have b1 := HB.out.trans (HB3.out.mono HB.out.size)
                  exact (b1.alloc b1.size _).trans B4.out
              case measure => simp [intOf]; omega
          · have hne : ¬ encE 1 (first + (k : Int)) (L s) = 0 := he
            generalize encE 1 (first + (k : Int)) (L s) = ee at *
            go_wp2_with (go_at_call 12; with_reducible refine (hEn.out _).mono ?_; rintro e w3 ⟨rfl, hb3⟩; have HB3 := Lib.hid hb3; clear hb3)
            go_ret3
            exact ⟨_, _, false, rfl, HB.out.trans (HB3.out.mono HB.out.size), fun hx => by cases hx⟩
      · have hkk' : ¬ (k : Int) < (ks.length : Int) := by omega
        have hEn := Lib.hid (fun W => Encode_any 1 (first + (k : Int)) s W hzk)
        by_cases he : encE 1 (first + (k : Int)) (L s) = 0
        · have hSz : (encS 1 (first + (k : Int)) (L s)).size = s.size + 18 := by unfold encS; rw [if_pos he, S_size, frm_length, L_length]
          have hLs : L (encS 1 (first + (k : Int)) (L s)) = frm 1 (first + (k : Int)).toNat (L s) := by unfold encS; rw [if_pos he]; rfl
          rw [he] at hEn
          have HE := Lib.hid he
          have HSZ := Lib.hid hSz
          have hfz : (encS 1 (first + (k : Int)) (L s)).size ≤ 2097170 := by have := (encE_ok.1 he).2.2.2.2.2; rw [L_length] at this; omega
          clear hSz
          have HLS := Lib.hid hLs
          clear hLs he
          generalize encS 1 (first + (k : Int)) (L s) = fb at *
          by_cases hbig : (4195304 : Int) < ((laid G).length : Int) + (fb.size : Int)
          · go_wp2_with (go_at_call 12; with_reducible refine (hEn.out _).mono ?_; rintro e w3 ⟨rfl, hb3⟩; have HB3 := Lib.hid hb3; clear hb3)
            go_ret3
            exact ⟨_, _, false, rfl, HB.out.trans (HB3.out.mono HB.out.size), fun hx => by cases hx⟩
          · have hsh : ((laid G).length : Int) + (fb.size : Int) ≤ 4195304 := by omega
            go_wp2_with (first | (go_at_call 12; with_reducible refine (hEn.out _).mono ?_; rintro e w3 ⟨rfl, hb3⟩; have HB3 := Lib.hid hb3; clear hb3) | (at_builtin; refine appN rfl (.tmp 64) (.tmp 67) rfl ((laid G).length + fb.size) _ (by omega) (HT.out.on HB3.out) rfl w3.heap.size rfl rfl HGL.out ?_; intro v4 w4 t4 b4; have T4 := Lib.hid t4; have B4 := Lib.hid b4; clear t4 b4))
            go_roundw
            case rel =>
              obtain ⟨R1, R2⟩ := HG.out.snoc (kd := 1) (s := s) (by rw [HGK.out]; exact HBD.out.symm) (by rw [HGK.out]; exact hd1) (by rw [HGK.out]; exact HE.out) (by have := HSZ.out; omega)
              rw [HGK.out] at R1 R2
              refine ⟨k + 1, _, by omega, by go_num, by rw [List.length_append, HGK.out]; rfl, ?_, R1, ?_, ?_⟩
              · rw [R2, S_append, HLS.out]
              · rw [List.map_append]
                have e : Fr.ends ⟨1, (first + (k : Int)).toNat, (laid G).length, L s⟩ = (laid G).length + fb.size := by have := HSZ.out; unfold Fr.ends; dsimp only; rw [L_length]; omega
                show Two _ _ _ _ (G.map Fr.ends ++ [Fr.ends ⟨1, (first + (k : Int)).toNat, (laid G).length, L s⟩]) _
                rw [e]
                exact T4.out
              · have b1 := HB.out.trans (HB3.out.mono HB.out.size)
                exact (b1.alloc b1.size _).trans B4.out
            case measure => simp [intOf]; omega
        · have hne : ¬ encE 1 (first + (k : Int)) (L s) = 0 := he
          generalize encE 1 (first + (k : Int)) (L s) = ee at *
          go_wp2_with (go_at_call 12; with_reducible refine (hEn.out _).mono ?_; rintro e w3 ⟨rfl, hb3⟩; have HB3 := Lib.hid hb3; clear hb3)
          go_ret3
          exact ⟨_, _, false, rfl, HB.out.trans (HB3.out.mono HB.out.size), fun hx => by cases hx⟩
    · have HG := Lib.hid hG
      have HT := Lib.hid hT
      have HB := Lib.hid hB
      clear hG hT hB
      by_cases hd1 : k < bs.length
      · have hd2 : ¬ (k : Int) < 12 := by omega
        go_wp2_with fail
        go_ret3
        first | exact ⟨S (laid G), u10, true, rfl, HB.out, fun _ => ⟨G, HG.out, rfl, HT.out⟩⟩ | exact ⟨S (laid G), u10, .inr ⟨rfl, HB.out, ⟨G, HG.out, rfl, HT.out⟩⟩⟩ | exact ⟨S (laid G), u10, .inl ⟨rfl, HB.out, ⟨G, HG.out, rfl, HT.out⟩⟩⟩
      · have hd2 : ¬ (k : Int) < (bs.length : Int) := by omega
        go_wp2_with fail
        go_ret3
        first | exact ⟨S (laid G), u10, true, rfl, HB.out, fun _ => ⟨G, HG.out, rfl, HT.out⟩⟩ | exact ⟨S (laid G), u10, .inr ⟨rfl, HB.out, ⟨G, HG.out, rfl, HT.out⟩⟩⟩ | exact ⟨S (laid G), u10, .inl ⟨rfl, HB.out, ⟨G, HG.out, rfl, HT.out⟩⟩⟩
end Go.Proofs.Ytllpejkfbgpobaa
