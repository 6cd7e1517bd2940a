/- The document's view: Take. -/
import Derived.Test.YtflkhnmggmfhfaaGreatR16q1
import Derived.Test.YtflkhnmggmfhfaaGreatR16q2
import Derived.Test.YtflkhnmggmfhfaaGreatR16q3
import Derived.Test.YtflkhnmggmfhfaaGreatR16q4
namespace Go.Proofs.YtflkhnmggmfhfaaGreat
open Go.RowKit

section
variable {P : Nat} {V : PV} {fp : List Nat} {w : World} {N : Nat}
/-- What Take answers and leaves, by what is plain. -/
def TkG (nn : Bool) (P : Nat) (V : PV) (wh recent : Int) (fp : List Nat) (w : World) (e : Ending) (w' : World) : Prop :=
  ∃ tv T, e = .returned tv ∧ Told w' tv T (takeT V wh recent) ∧ RGm nn P (takeV V wh recent) fp w w' ∧ (∀ b, tv.ownBlock = some b → w.heap.size ≤ b) ∧ ∀ t ∈ T, ∀ b, t.fv.ownBlock = some b → b ∈ fp ∨ w.heap.size ≤ b
theorem rows_new {b : Bool} {R : List RR} (C : List Int) (recent : Int) : (sRR b R ++ C.map (rnewE recent)).map RR.pl = (if b = true then stayR (R.map RR.pl) else R.map RR.pl) ++ C.map (newR recent) := by
  rw [List.map_append, sRR_pl, List.map_map]
  rfl
theorem tkG_of {nn : Bool} {b : Bool} {rv cv : Value} {R : List RR} {wh recent : Int} {e : Ending} {w' : World} (hpl : R.map RR.pl = V.rows) (hb : (b = true ∧ wh = 2) ∨ (b = false ∧ wh = 1)) (h : TkOut nn P V.val b R V.com recent (fpR P rv cv R) w e w') : TkG nn P V wh recent (fpR P rv cv R) w e w' := by
  obtain ⟨tv, T, he, ht, ho, hs, h1, h2⟩ := h
  have hw : wh = 1 ∨ wh = 2 := by rcases hb with ⟨_, h⟩ | ⟨_, h⟩ <;> omega
  have eg : goneV V wh = { V with rows := if b = true then stayR (R.map RR.pl) else R.map RR.pl } := by
    unfold goneV
    rcases hb with ⟨rfl, rfl⟩ | ⟨rfl, rfl⟩
    · simp [hpl]
    · simp [hpl]
  have er : (settleP (goneV V wh) recent).rows = (sRR b R ++ V.com.map (rnewE recent)).map RR.pl := by
    rw [rows_new, eg]
    rfl
  refine ⟨tv, T, he, ?_, ?_, h1, h2⟩
  · have e2 : takeT V wh recent = gTd b (R.map RR.pl) ++ (newQ b R V.com recent ++ flagT 0 ((sRR b R ++ V.com.map (rnewE recent)).map RR.pl)) := by
      unfold takeT
      rw [if_pos hw, er]
      congr 1
      · unfold goneD gTd
        rcases hb with ⟨rfl, rfl⟩ | ⟨rfl, rfl⟩
        · simp [hpl]
        · simp
      · congr 1
        unfold newT newQ
        have ec : (goneV V wh).com = V.com := by rw [eg]
        rw [ec, er]
        by_cases hc : V.com = []
        · rw [if_pos hc, if_pos hc]
        · rw [if_neg hc, if_neg hc]
          congr 3
          · rw [List.length_map]
          · rw [List.filter_map, List.length_map]
            rfl
    rw [e2]
    exact ht
  · refine RG.of ho ?_ ?_ ?_ hs
    · exact (takeV_val V wh recent).symm
    · unfold takeV
      rw [if_pos hw]
      show _ = (settleP (goneV V wh) recent).rows.map calmR
      rw [er, List.map_map, List.map_map]
      exact List.map_congr_left (fun r _ => rcalm_pl r)
    · unfold takeV
      rw [if_pos hw]
      rfl
set_option maxRecDepth 100000 in
set_option maxHeartbeats 1000000 in
theorem Take_RW {nn : Bool} (h : RWm nn P V fp w) (hk : PVok V N) (hN : N ≤ 1000000) (wh recent : Int) :
    Calls Tryz.prog 16 #[.pointer (some ⟨P, 0, none⟩), .int .i64 wh, .int .i64 recent] w (TkG nn P V wh recent fp w) := by
  obtain ⟨rv, cv, R, h1, h2, rfl, h4⟩ := h
  have hl := hk.len
  have hrl := rlen_pl h2
  by_cases w1 : wh = 1
  · subst w1
    by_cases hc : V.com = []
    · rw [hc] at h1
      refine (rTake_1n h1 h4 (by simp; omega) recent).mono (fun e w' q => tkG_of h2 (.inr ⟨rfl, rfl⟩) ?_)
      rw [hc]
      exact q
    · exact (rTake_1c h1 h4 (by omega) recent hc).mono (fun e w' q => tkG_of h2 (.inr ⟨rfl, rfl⟩) q)
  by_cases w2 : wh = 2
  · subst w2
    by_cases hc : V.com = []
    · rw [hc] at h1
      refine (rTake_2n h1 h4 (by simp; omega) recent).mono (fun e w' q => tkG_of h2 (.inl ⟨rfl, rfl⟩) ?_)
      rw [hc]
      exact q
    · exact (rTake_2c h1 h4 (by omega) recent hc).mono (fun e w' q => tkG_of h2 (.inl ⟨rfl, rfl⟩) q)
  have b1 : (wh != 1) = true := by simpa using w1
  have b2 : (wh != 2) = true := by simpa using w2
  have HF : Hid (TkG nn P V wh recent (fpR P rv cv R) w (.returned (.slice none 0 0)) w) := Lib.hid (by
    have e1 : takeT V wh recent = [] := by unfold takeT; rw [if_neg (by omega)]
    have e2 : takeV V wh recent = V := by unfold takeV; rw [if_neg (by omega)]
    refine ⟨_, [], rfl, ?_, ?_, fun b hb => (by cases hb), fun t ht => (by cases ht)⟩
    · rw [e1]
      exact ⟨World.ownsRow_nil _ _ _ _, fun t ht => (by cases ht), rfl⟩
    · rw [e2]
      exact ⟨_, ⟨rv, cv, R, h1, h2, rfl, h4⟩, FO.refl _ _⟩)
  clear h1 w1 w2
  go_enter Tryz.func16, Tryz.ntmps16
  go_wp2_with fail
  go_ret
  exact HF.out
end
end Go.Proofs.YtflkhnmggmfhfaaGreat
