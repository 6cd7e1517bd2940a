/- moment: namedZone. -/
import Derived.Test.YtckdmbeokajdjaaGreatDoorDw
import Derived.Maps.Own
import Derived.Maps.OwnOps
namespace Go.Proofs.YtckdmbeokajdjaaGreatDoor
open Go.RowKit Go.Maps

theorem Tryz.keyed : Keyed Tryz.prog 9 := string_keyed Tryz.underlying9
theorem Tryz.zeroInt (w : World) : (zeroValue 3).run Tryz.prog w = .ok (.int .i64 0) w := by kernel_rfl
def zK (l : List UInt8) : Lit := .string l
def zV (v : Int) : DataW Unit := .lit (.int .i64 v)
/-- The table of names, as the function writes it. -/
def zonesD : DataW Unit := (((((((((DataW.map []).put (zK [69, 83, 84]) (zV (-300))).put (zK [69, 68, 84]) (zV (-240))).put (zK [67, 83, 84]) (zV (-360))).put (zK [67, 68, 84]) (zV (-300))).put (zK [77, 83, 84]) (zV (-420))).put (zK [77, 68, 84]) (zV (-360))).put (zK [80, 83, 84]) (zV (-480))).put (zK [80, 68, 84]) (zV (-420)))
def nzI (p : List UInt8) : Int := match zonesD.atKey (zK (Lib.toUpperA p)) (zV 0) with
  | .lit (.int _ c) => c
  | _ => 0
theorem own_on {w w' : World} {b n : Nat} {D : DataW Unit} (h : w.ownsMap Tryz.prog 9 (plainElem Tryz.prog 3) b n D) (hb : Below w.heap.size w w') : w'.ownsMap Tryz.prog 9 (plainElem Tryz.prog 3) b n D := by
  have hlt := h.lt
  obtain ⟨es, clock, h1, F, hs, hD⟩ := h
  exact ⟨es, clock, (hb.block b hlt).trans h1, F, hs, hD⟩
theorem own_put {w : World} {b n : Nat} {D : DataW Unit} (h : w.ownsMap Tryz.prog 9 (plainElem Tryz.prog 3) b n D) (hn : n < 100) (k : ByteArray) (hk : k.size ≤ 100) (v : Int) (hv : (Lit.int .i64 v).wf = true) :
    ∃ w', (Instr.mapUpdate 86 (.map (some b)) (.string k) (.int .i64 v)).run Tryz.prog w = .ok () w' ∧ w'.ownsMap Tryz.prog 9 (plainElem Tryz.prog 3) b (n + 1) (D.put (zK (L k)) (zV v)) ∧ w.grownBy w' (some b) :=
  h.update Tryz.keyed Tryz.underlying86 (by unfold maxLen; omega) (WideMaps.keyOf_string_mk Tryz.underlying9 (by unfold maxLen; omega)) (plainElem_int Tryz.underlying3 hv)
set_option maxRecDepth 100000 in
set_option maxHeartbeats 4000000 in
theorem namedZone_any (p : ByteArray) (w : World) (hs : p.size ≤ 140737488355328) (hl : (L p).all isLet = true) :
    Calls Tryz.prog 54 #[.string p] w fun e w' => e = .returned (.int .i64 (nzI (L p))) ∧ Below w.heap.size w w' := by
  have hmm := @run_makeMap Tryz.prog
  have o0 : (w.alloc (.map #[] 0)).ownsMap Tryz.prog 9 (plainElem (H := Unit) Tryz.prog 3) w.heap.size 0 (.map []) := World.ownsMap_made _ _ _ _
  have q0 : Below w.heap.size w (w.alloc (.map #[] 0)) := (Below.refl _ _).alloc (Nat.le_refl _) _
  obtain ⟨w1, r1, o1, g1⟩ := own_put o0 (by omega) ⟨#[69, 83, 84]⟩ (by decide) (-300) (by decide)
  obtain ⟨w2, r2, o2, g2⟩ := own_put o1 (by omega) ⟨#[69, 68, 84]⟩ (by decide) (-240) (by decide)
  obtain ⟨w3, r3, o3, g3⟩ := own_put o2 (by omega) ⟨#[67, 83, 84]⟩ (by decide) (-360) (by decide)
  obtain ⟨w4, r4, o4, g4⟩ := own_put o3 (by omega) ⟨#[67, 68, 84]⟩ (by decide) (-300) (by decide)
  obtain ⟨w5, r5, o5, g5⟩ := own_put o4 (by omega) ⟨#[77, 83, 84]⟩ (by decide) (-420) (by decide)
  obtain ⟨w6, r6, o6, g6⟩ := own_put o5 (by omega) ⟨#[77, 68, 84]⟩ (by decide) (-360) (by decide)
  obtain ⟨w7, r7, o7, g7⟩ := own_put o6 (by omega) ⟨#[80, 83, 84]⟩ (by decide) (-480) (by decide)
  obtain ⟨w8, r8, o8, g8⟩ := own_put o7 (by omega) ⟨#[80, 68, 84]⟩ (by decide) (-420) (by decide)
  have q1 := q0.grown g1 q0.size (fun j hj => by cases hj; exact Nat.le_refl _)
  have q2 := q1.grown g2 q1.size (fun j hj => by cases hj; exact Nat.le_refl _)
  have q3 := q2.grown g3 q2.size (fun j hj => by cases hj; exact Nat.le_refl _)
  have q4 := q3.grown g4 q3.size (fun j hj => by cases hj; exact Nat.le_refl _)
  have q5 := q4.grown g5 q4.size (fun j hj => by cases hj; exact Nat.le_refl _)
  have q6 := q5.grown g6 q5.size (fun j hj => by cases hj; exact Nat.le_refl _)
  have q7 := q6.grown g7 q6.size (fun j hj => by cases hj; exact Nat.le_refl _)
  have q8 := q7.grown g8 q7.size (fun j hj => by cases hj; exact Nat.le_refl _)
  have O8 := Lib.hid (show w8.ownsMap Tryz.prog 9 (plainElem (H := Unit) Tryz.prog 3) w.heap.size 8 zonesD from o8)
  have Q8 := Lib.hid q8
  clear o0 o1 o2 o3 o4 o5 o6 o7 o8 g1 g2 g3 g4 g5 g6 g7 g8 q0 q1 q2 q3 q4 q5 q6 q7 q8
  have hU := Lib.hid (fun W => Tryz.strings_ToUpper_ascii p W hs (fun j b hb => by
    have := List.all_eq_true.1 hl b (List.mem_of_getElem? hb)
    unfold isLet smI at this
    simp at this
    split at this <;> omega))
  have hup : (S (Lib.toUpperA (L p))).size ≤ 140737488355328 := by
    rw [S_size]; simpa [Lib.toUpperA, L_length] using hs
  change Hid (∀ W, Calls Tryz.prog 77 #[.string p] W fun e w' => e = .returned (.string (S (Lib.toUpperA (L p)))) ∧ Below W.heap.size W w') at hU
  have HZ : Hid (∀ c, zonesD.atKey (zK (L (S (Lib.toUpperA (L p))))) (.lit (.int .i64 0)) = .lit (.int .i64 c) → c = nzI (L p)) := Lib.hid (fun c hc => by
    unfold nzI; rw [L_S] at hc
    show c = match zonesD.atKey (zK (Lib.toUpperA (L p))) (.lit (.int .i64 0)) with | .lit (.int _ c) => c | _ => 0
    rw [hc])
  generalize S (Lib.toUpperA (L p)) = U at *
  go_enter Tryz.func54, Tryz.ntmps54
  go_wp2_with fail
  refine (hU.out _).mono ?_
  rintro e w9 ⟨rfl, hb9⟩
  obtain ⟨c, hrun, hat, _⟩ := (own_on O8.out hb9).lookup_int Tryz.keyed Tryz.underlying86 Tryz.underlying3 (Tryz.zeroInt _) (key := .string U) (WideMaps.keyOf_string_mk Tryz.underlying9 (by unfold maxLen; omega))
  have HC := Lib.hid (HZ.out c hat)
  have Q9 := Lib.hid (Q8.out.trans (hb9.mono Q8.out.size))
  clear hat hb9 HZ r1 r2 r3 r4 r5 r6 r7 r8
  go_wp2
  go_ret
  exact ⟨ret_int HC.out, Q9.out⟩
def elemOk : DataW Unit → Bool
  | .lit (.int .i64 v) => decide (-1439 ≤ v ∧ v ≤ 1439)
  | _ => false
def zoneOk : DataW Unit → Bool
  | .map es => es.all fun x => elemOk x.2
  | _ => false
theorem nzI_bounds (p : List UInt8) : -1439 ≤ nzI p ∧ nzI p ≤ 1439 := by
  have hz : ∃ es, zonesD = .map es ∧ ∀ x ∈ es, ∃ v : Int, x.2 = zV v ∧ -1439 ≤ v ∧ v ≤ 1439 := by
    have hc : zoneOk zonesD = true := by kernel_rfl
    cases hd : zonesD with
    | map es =>
      rw [hd] at hc
      refine ⟨es, rfl, fun x hx => ?_⟩
      have h := List.all_eq_true.1 hc x hx
      revert h
      cases x.2 with
      | lit l =>
        cases l with
        | int k v =>
          cases k with
          | i64 =>
            intro h
            have := of_decide_eq_true h
            exact ⟨v, rfl, this⟩
          | _ => intro h; cases h
        | _ => intro h; cases h
      | _ => intro h; cases h
    | _ => rw [hd] at hc; cases hc
  obtain ⟨es, he, hall⟩ := hz
  unfold nzI DataW.atKey
  rw [he]
  simp only
  cases hf : es.find? (fun q => q.1.sameKey (zK (Lib.toUpperA p))) with
  | none => simp [zV]
  | some x =>
    obtain ⟨v, hv, h1, h2⟩ := hall x (List.mem_of_find?_eq_some hf)
    simp only [hv, zV]
    exact ⟨h1, h2⟩
end Go.Proofs.YtckdmbeokajdjaaGreatDoor
