/- The document's view: Take, what it leaves. -/
import Derived.Test.YtflkhnmggmfhfaaGreatR16l
import Derived.BigRegion
namespace Go.Proofs.YtflkhnmggmfhfaaGreat
open Go.RowKit

theorem RRAt.on {w X : World} {g k : Nat} {x : RR} (h : RRAt w g k x) (hb : Below w.heap.size w X) (hg : g < w.heap.size) : RRAt X g k x :=
  ⟨by rw [hb.cell (p := ⟨g, k * 6, none⟩) hg]; exact h.c0, by rw [hb.cell (p := ⟨g, k * 6 + 1, none⟩) hg]; exact h.c1, by rw [hb.cell (p := ⟨g, k * 6 + 2, none⟩) hg]; exact h.c2, by rw [hb.cell (p := ⟨g, k * 6 + 3, none⟩) hg]; exact h.c3, by rw [hb.cell (p := ⟨g, k * 6 + 4, none⟩) hg]; exact h.c4, by rw [hb.cell (p := ⟨g, k * 6 + 5, none⟩) hg]; exact h.c5, fun j => by rw [World.frozen?_of_block (a := ⟨g, j, none⟩) (hb.block g hg)]; exact h.fz j⟩
def newQ (b : Bool) (R : List RR) (C : List Int) (recent : Int) : List Td := if C = [] then [] else [⟨2, ((sRR b R ++ C.map (rnewE recent)).length : Int), 0, 0, []⟩, ⟨3, (((sRR b R ++ C.map (rnewE recent)).filter RR.rct).length : Int), 0, 0, []⟩]
theorem gTd_fl (b : Bool) (l : List PR) : ∀ t ∈ gTd b l, t.fl = [] := by
  unfold gTd
  split
  · exact goneT_fl l 0
  · intro t ht; cases ht
/-- Where new rows come in. -/
def TKc (w : World) (b : Bool) (R : List RR) (C : List Int) (recent : Int) (tv : Value) (j : Nat) (qv : Value) (Z : World) : Prop := TK w ((gTd b (R.map RR.pl)).map nilT) (sRR b R ++ (C.take j).map (rnewE recent)) tv qv Z
/-- What Take leaves. -/
def TkOut (nn : Bool) (P : Nat) (val : Int) (b : Bool) (R : List RR) (C : List Int) (recent : Int) (fp : List Nat) (w : World) (e : Ending) (w' : World) : Prop :=
  ∃ tv T, e = .returned tv ∧ Told w' tv T (gTd b (R.map RR.pl) ++ (newQ b R C recent ++ flagT 0 ((sRR b R ++ C.map (rnewE recent)).map RR.pl))) ∧ RO nn P val ((sRR b R ++ C.map (rnewE recent)).map rcalm) [] fp w w' ∧ ShR ((sRR b R ++ C.map (rnewE recent)).map rcalm) ∧ (∀ b', tv.ownBlock = some b' → w.heap.size ≤ b') ∧ ∀ t ∈ T, ∀ b', t.fv.ownBlock = some b' → b' ∈ fp ∨ w.heap.size ≤ b'
theorem take_done {P : Nat} {nn : Bool} {val : Int} {b : Bool} {rv cv qv tv tv0 : Value} {R Q : List RR} {C : List Int} {recent : Int} {T : List TDE} {w w5 Z : World} (fo5 : FO (fpR P rv cv R) (fpR P qv (.slice none 0 0) Q) w w5) (htv : ∀ b', tv0.ownBlock = some b' → w.heap.size ≤ b') (hTf : ∀ t ∈ T, t.fv = .slice none 0 0 ∧ t.fl = []) (hsh : ShR Q) (hQR : ∀ r ∈ Q, r.waits = true → r ∈ R) (hpl : T.map TDE.pl = gTd b (R.map RR.pl) ++ newQ b R C recent)
    (hv : RV nn P val qv (.slice none 0 0) (Q.map rcalm) [] Z) (hto : TdRow Z tv (T ++ rflagE 0 Q)) (hfl : FlT Z (T ++ rflagE 0 Q)) (hfo : FO (tv0.ownBlock.toList ++ fpR P qv (.slice none 0 0) Q) (tv.ownBlock.toList ++ fpR P qv (.slice none 0 0) (Q.map rcalm)) w5 Z) (hQ : Q = sRR b R ++ C.map (rnewE recent) := by first | rfl | simp) :
    TkOut nn P val b R C recent (fpR P rv cv R) w (.returned tv) Z := by
  subst hQ
  have hin : ∀ b', b' ∈ tv0.ownBlock.toList ++ fpR P qv (.slice none 0 0) (sRR b R ++ C.map (rnewE recent)) → b' ∈ fpR P rv cv R ∨ w.heap.size ≤ b' := fun b' hb => by
    rcases List.mem_append.1 hb with h1 | h1
    · exact .inr (htv b' (by simpa using h1))
    · exact fo5.2 b' h1
  refine ⟨tv, _, rfl, ⟨hto, hfl, ?_⟩, ⟨qv, .slice none 0 0, hv, fo5.1.trans hfo.1 hin, fun b' hb => ?_⟩, ?_, fun b' hb => ?_, fun t ht b' hb => ?_⟩
  · rw [List.map_append, hpl, rflagE_pl, List.append_assoc]
  · rcases hfo.2 b' (List.mem_append_right _ hb) with h1 | h1
    · exact hin b' h1
    · exact .inr (Nat.le_trans fo5.1.size h1)
  · exact ShR.map (fun r hr => by
      unfold rcalm
      split
      · exact ⟨none, 0, 0, rfl⟩
      · exact hsh r hr)
  · have h5 := hfo.2 b' (List.mem_append_left _ (by simp [hb]))
    rcases h5 with h1 | h1
    · rcases List.mem_append.1 h1 with h2 | h2
      · exact htv b' (by simpa using h2)
      · -- no block of the view holds what is told
        exfalso
        obtain ⟨cs, hc⟩ := row_kind hto hb
        have hb5 : b' ∈ fpR P qv (.slice none 0 0) (sRR b R ++ C.map (rnewE recent)) := h2
        rcases mem_fpR.1 hb5 with rfl | e2 | e2 | ⟨r, hr, e2⟩
        · exact kind_ne hc hv.self (by decide) rfl
        · obtain ⟨cs2, hc2⟩ := row_kind hv.rows e2
          exact kind_ne hc hc2 (by decide) rfl
        · cases e2
        · obtain ⟨hw, e3⟩ := blks_waits e2
          by_cases hg : rtellB r = true
          · obtain ⟨n, t, htm, hfv⟩ : ∃ n t, t ∈ rflagE n (sRR b R ++ C.map (rnewE recent)) ∧ t.fv = r.fv ∧ n = 0 := by
              have key : ∀ (Q : List RR) (n : Nat), r ∈ Q → ∃ t, t ∈ rflagE n Q ∧ t.fv = r.fv := by
                intro Q
                induction Q with
                | nil => intro n h; cases h
                | cons q Q ih =>
                  intro n h
                  rcases List.mem_cons.1 h with rfl | h
                  · exact ⟨⟨4, (n : Int) + 1, r.uid, r.mod, r.fv, r.fl⟩, List.mem_append_left _ (by unfold rfE; rw [if_pos hg]; simp), rfl⟩
                  · obtain ⟨t, h1, h2⟩ := ih (n + 1) h
                    exact ⟨t, List.mem_append_right _ h1, h2⟩
              obtain ⟨t, h1, h2⟩ := key _ 0 hr
              exact ⟨0, t, h1, h2, rfl⟩
            obtain ⟨hfv, rfl⟩ := hfv
            have h7 := hfl t (List.mem_append_right _ htm)
            obtain ⟨cs2, hc2⟩ := row_kind h7 (by rw [hfv]; exact e3)
            exact kind_ne hc hc2 (by decide) rfl
          · have hrc : rcalm r = r := by unfold rcalm; rw [if_neg hg]
            have hm : r ∈ (sRR b R ++ C.map (rnewE recent)).map rcalm := List.mem_map.2 ⟨r, hr, hrc⟩
            obtain ⟨cs2, hc2⟩ := row_kind (hv.fls r hm hw) e3
            exact kind_ne hc hc2 (by decide) rfl
    · exact Nat.le_trans fo5.1.size h1
  · rcases List.mem_append.1 ht with h1 | h1
    · rw [(hTf t h1).1] at hb
      cases hb
    · obtain ⟨r, hr, hw, e1, _⟩ := rflag_mem _ _ _ h1
      rw [e1] at hb
      exact .inl (mem_fpR.2 (.inr (.inr (.inr ⟨r, hQR r hr hw, (blks_yes hw).2 hb⟩))))
end Go.Proofs.YtflkhnmggmfhfaaGreat
