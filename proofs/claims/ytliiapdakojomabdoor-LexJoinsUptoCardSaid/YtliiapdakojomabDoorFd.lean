/- lex: whether lists of words are alike, as the document sees it. -/
import Derived.Test.YtliiapdakojomabDoorBr
import Derived.Test.YtliiapdakojomabDoorCq
import Derived.Test.YtliiapdakojomabDoorBw
import Derived.Test.YtliiapdakojomabDoorEj
namespace Go.Proofs.YtliiapdakojomabDoor
open Go.RowKit

/-- What is known while two words are compared. -/
abbrev SgS (g1 o1 g2 o2 k : Nat) (ck : Int) (ct : ByteArray) (cg : Bool) (va : Option Addr) (vn vc : Nat) (dk : Int) (dt : ByteArray) (dg : Bool) (vb : Option Addr) (wn wc : Nat) (w W : World) : World → Prop := fun X =>
  X.cell? ⟨g1, o1 + k * 4, none⟩ = some (.int .i64 ck) ∧ X.cell? ⟨g1, o1 + k * 4 + 1, none⟩ = some (.string ct) ∧ X.cell? ⟨g1, o1 + k * 4 + 2, none⟩ = some (.slice va vn vc) ∧ X.cell? ⟨g1, o1 + k * 4 + 3, none⟩ = some (.bool cg) ∧
  X.cell? ⟨g2, o2 + k * 4, none⟩ = some (.int .i64 dk) ∧ X.cell? ⟨g2, o2 + k * 4 + 1, none⟩ = some (.string dt) ∧ X.cell? ⟨g2, o2 + k * 4 + 2, none⟩ = some (.slice vb wn wc) ∧ X.cell? ⟨g2, o2 + k * 4 + 3, none⟩ = some (.bool dg) ∧ Hid (Below w.heap.size w X) ∧ Hid (Below W.heap.size W X)
theorem SgS.on {g1 o1 g2 o2 k : Nat} {ck : Int} {ct : ByteArray} {cg : Bool} {va : Option Addr} {vn vc : Nat} {dk : Int} {dt : ByteArray} {dg : Bool} {vb : Option Addr} {wn wc : Nat} {w W X Y : World} (h : SgS g1 o1 g2 o2 k ck ct cg va vn vc dk dt dg vb wn wc w W X) (hb : Below X.heap.size X Y) : SgS g1 o1 g2 o2 k ck ct cg va vn vc dk dt dg vb wn wc w W Y := by
  obtain ⟨p0, p1, p2, p3, r0, r1, r2, r3, h1, h2⟩ := h
  exact ⟨cellB p0 hb, cellB p1 hb, cellB p2 hb, cellB p3 hb, cellB r0 hb, cellB r1 hb, cellB r2 hb, cellB r3 hb, Lib.hid (h1.out.trans (hb.mono h1.out.size)), Lib.hid (h2.out.trans (hb.mono h2.out.size))⟩
theorem eqL_refl2 : ∀ (l : List Wd), eqL l l = true
  | [] => rfl
  | .mk k t r g :: l => by
    have h1 := eqL_refl2 r
    have h2 := eqL_refl2 l
    simp [eqL, eqW, h1, h2]
theorem eqL_not {l m : List Wd} (h : l ≠ m) : eqL l m = false := by
  cases he : eqL l m with
  | false => rfl
  | true => exact absurd (eqL_eq l m he) h
theorem wd_eta (d : Wd) : d = .mk d.kind d.text d.kids d.glued := by cases d; rfl
theorem lists_of_all {a b : List Wd} (hl : a.length = b.length) (h : ∀ j, j < a.length → a.getD j wd0 = b.getD j wd0) : a = b := by
  apply List.ext_getElem hl
  intro i h1 h2
  have := h i h1
  rw [List.getD_eq_getElem?_getD, List.getD_eq_getElem?_getD, List.getElem?_eq_getElem h1, List.getElem?_eq_getElem h2] at this
  simpa using this
set_option maxRecDepth 100000 in
set_option maxHeartbeats 16000000 in
theorem samg_step (l m : List Wd) (a1 a2 : Option Addr) (n1 c1 n2 c2 : Nat) (D1 D2 : Nat → Prop) (w : World) (h1 : Lies w D1 a1 n1 c1 l) (h2 : Lies w D2 a2 n2 c2 m)
    (ih : ∀ i, i < l.length → i < m.length → ∀ (va vb : Option Addr) (vn vc wn wc : Nat), Lies w D1 va vn vc (l.getD i wd0).kids → Lies w D2 vb wn wc (m.getD i wd0).kids → ∀ W, Below w.heap.size w W → Calls Tryd.prog 21 #[.slice va vn vc, .slice vb wn wc] W fun e w' => e = .returned (.bool (eqL (l.getD i wd0).kids (m.getD i wd0).kids)) ∧ Below W.heap.size W w') (W : World) (hW : Below w.heap.size w W) :
    Calls Tryd.prog 21 #[.slice a1 n1 c1, .slice a2 n2 c2] W fun e w' => e = .returned (.bool (eqL l m)) ∧ Below W.heap.size W w' := by
  have hm1 : l.length ≤ 9223372036854775807 := by
    have : l.length ≤ maxLen := by
      cases h1 with
      | nil => simp
      | row _ _ _ _ _ _ _ _ _ hn _ _ => exact hn
    unfold maxLen at this
    omega
  obtain rfl := h1.len
  obtain rfl := h2.len
  have H1 := Lib.hid h1
  have H2 := Lib.hid h2
  have HIH := Lib.hid ih
  have HW := Lib.hid hW
  clear h1 h2 ih hW
  by_cases hlen : l.length = m.length
  · have hq : ((l.length : Int) != (m.length : Int)) = false := by rw [hlen]; simp
    have HLEN := Lib.hid hlen
    clear hlen
    go_enter Tryd.func21, Tryd.ntmps21
    go_wp2_with fail
    go_loopg [5] l.length (fun gg s5 wr => ∃ (k : Nat) (X : World), X = wr ∧ k ≤ l.length ∧ l.length - k ≤ gg ∧ s5 = .int .i64 k ∧ Hid (Below W.heap.size W X) ∧ Hid (∀ j, j < k → l.getD j wd0 = m.getD j wd0))
    case atStart => exact ⟨0, _, rfl, Nat.zero_le _, by omega, rfl, Lib.hid (Below.refl _ _), Lib.hid fun j hj => absurd hj (Nat.not_lt_zero _)⟩
    case round =>
      obtain ⟨k, X, hX, hk, hgg, rfl, HB, HALL⟩ := hrel
      subst hX
      by_cases hlt : k < l.length
      · have hltm : k < m.length := by have := HLEN.out; omega
        have hbX : Below w.heap.size w X := HW.out.trans (HB.out.mono HW.out.size)
        obtain ⟨g1, o1, rfl, _, va, vn, vc, ⟨p0, p1, p2, p3⟩, hk1⟩ := H1.out.pick k hlt
        obtain ⟨g2, o2, rfl, _, vb, wn, wc', ⟨r0, r1, r2, r3⟩, hk2⟩ := H2.out.pick k hltm
        have HS := Lib.hid (HIH.out k hlt hltm va vb vn vc wn wc' hk1 hk2)
        replace p0 := cellB p0 hbX
        replace p1 := cellB p1 hbX
        replace p2 := cellB p2 hbX
        replace p3 := cellB p3 hbX
        replace r0 := cellB r0 hbX
        replace r1 := cellB r1 hbX
        replace r2 := cellB r2 hbX
        replace r3 := cellB r3 hbX
        have hkz : (k : Int) < (l.length : Int) := by omega
        have hkm : (k : Int) < (m.length : Int) := by omega
        have hk0 : (0 : Int) ≤ (k : Int) := by omega
        have HBX := Lib.hid hbX
        have HNO : Hid (l.getD k wd0 ≠ m.getD k wd0 → eqL l m = false) := Lib.hid (fun h => eqL_not (fun e => h (by rw [e])))
        have HE1 := Lib.hid (wd_eta (l.getD k wd0))
        have HE2 := Lib.hid (wd_eta (m.getD k wd0))
        clear hbX hk1 hk2 HIH H1 H2 HW
        obtain ⟨d1, hd1⟩ : ∃ d, l.getD k wd0 = d := ⟨_, rfl⟩
        obtain ⟨d2, hd2⟩ : ∃ d, m.getD k wd0 = d := ⟨_, rfl⟩
        have HD12 : Hid (l.getD k wd0 = d1 ∧ m.getD k wd0 = d2) := Lib.hid ⟨hd1, hd2⟩
        rw [hd1] at HS HNO HE1 p0 p1 p3
        rw [hd2] at HS HNO HE2 r0 r1 r3
        clear hd1 hd2
        generalize hck : d1.kind = ck at *
        generalize hct : d1.text = ct at *
        generalize hcg : d1.glued = cg at *
        generalize hcl : d1.kids = cl at *
        generalize hdk : d2.kind = dk at *
        generalize hdt : d2.text = dt at *
        generalize hdg : d2.glued = dg at *
        generalize hdl : d2.kids = dl at *
        replace hck := Lib.hid hck
        replace hct := Lib.hid hct
        replace hcg := Lib.hid hcg
        replace hcl := Lib.hid hcl
        replace hdk := Lib.hid hdk
        replace hdt := Lib.hid hdt
        replace hdg := Lib.hid hdg
        replace hdl := Lib.hid hdl
        obtain ⟨bb, hbb⟩ : ∃ x, eqL cl dl = x := ⟨_, rfl⟩
        rw [hbb] at HS
        have HBB := Lib.hid hbb
        clear hbb
        go_wp2_with fail
        have st := SgS.on (Y := X.drew) ⟨p0, p1, p2, p3, r0, r1, r2, r3, HBX, HB⟩ ((Below.refl _ _).drew)
        clear p0 p1 p2 p3 r0 r1 r2 r3 HB HBX
        refine wp_region_held_drew (S := SgS g1 o1 g2 o2 k ck ct cg va vn vc dk dt dg vb wn wc' w W) (by kernel_rfl) st (fun hHeld => ?_)
        clear hHeld
        refine wpAnyH_take (i := 0) (oi := { dst := some 17, op := .move (.tmp 0), type := 24, pos := "ref.go:280", after := #[], guard := none }) (v := ?_) rfl (by kernel_rfl) (by kernel_rfl) (by kernel_rfl) (fun _ _ _ h => h) (Or.inl ⟨by kernel_rfl, ?_⟩) st ?_
        rotate_left
        · (intro X hX; (try dsimp only at hX); go_simp; try (with_reducible rfl))
        (try simp only [Act.put, List.setIfInBounds_toArray, List.set_cons_zero, List.set_cons_succ])
        refine wpAnyH_take (i := 1) (oi := { dst := some 18, op := .move (.tmp 5), type := 3, pos := "ref.go:280", after := #[], guard := none }) (v := ?_) rfl (by kernel_rfl) (by kernel_rfl) (by kernel_rfl) (fun _ _ _ h => h) (Or.inl ⟨by kernel_rfl, ?_⟩) st ?_
        rotate_left
        · (intro X hX; (try dsimp only at hX); go_simp; try (with_reducible rfl))
        (try simp only [Act.put, List.setIfInBounds_toArray, List.set_cons_zero, List.set_cons_succ])
        refine wpAnyH_take (i := 2) (oi := { dst := some 19, op := .indexAddr 24 (.tmp 17) (.tmp 18), type := 0, pos := "ref.go:280", after := #[{ on := 0, ground := .data }, { on := 1, ground := .data }], guard := none }) (v := ?_) rfl (by kernel_rfl) (by kernel_rfl) (by kernel_rfl) (fun _ _ _ h => h) (Or.inl ⟨by kernel_rfl, ?_⟩) st ?_
        rotate_left
        · (intro X hX; (try dsimp only at hX); go_simp; try (with_reducible rfl))
        (try simp only [Act.put, List.setIfInBounds_toArray, List.set_cons_zero, List.set_cons_succ])
        refine wpAnyH_take (i := 3) (oi := { dst := some 20, op := .fieldAddr 33 (.tmp 19) 0, type := 0, pos := "ref.go:280", after := #[{ on := 2, ground := .data }], guard := none }) (v := ?_) rfl (by kernel_rfl) (by kernel_rfl) (by kernel_rfl) (fun _ _ _ h => h) (Or.inl ⟨by kernel_rfl, ?_⟩) st ?_
        rotate_left
        · (intro X hX; (try dsimp only at hX); go_simp; try (with_reducible rfl))
        (try simp only [Act.put, List.setIfInBounds_toArray, List.set_cons_zero, List.set_cons_succ])
        refine wpAnyH_take (i := 4) (oi := { dst := some 21, op := .load 3 (.tmp 20), type := 3, pos := "ref.go:280", after := #[{ on := 3, ground := .data }], guard := none }) (v := ?_) rfl (by kernel_rfl) (by kernel_rfl) (by kernel_rfl) (fun _ _ _ h => h) (Or.inl ⟨by kernel_rfl, ?_⟩) st ?_
        rotate_left
        · (intro X hX; (try dsimp only at hX); go_simp; try (with_reducible rfl))
        (try simp only [Act.put, List.setIfInBounds_toArray, List.set_cons_zero, List.set_cons_succ])
        refine wpAnyH_take (i := 5) (oi := { dst := some 22, op := .move (.tmp 1), type := 24, pos := "ref.go:280", after := #[], guard := none }) (v := ?_) rfl (by kernel_rfl) (by kernel_rfl) (by kernel_rfl) (fun _ _ _ h => h) (Or.inl ⟨by kernel_rfl, ?_⟩) st ?_
        rotate_left
        · (intro X hX; (try dsimp only at hX); go_simp; try (with_reducible rfl))
        (try simp only [Act.put, List.setIfInBounds_toArray, List.set_cons_zero, List.set_cons_succ])
        refine wpAnyH_take (i := 6) (oi := { dst := some 23, op := .move (.tmp 5), type := 3, pos := "ref.go:280", after := #[], guard := none }) (v := ?_) rfl (by kernel_rfl) (by kernel_rfl) (by kernel_rfl) (fun _ _ _ h => h) (Or.inl ⟨by kernel_rfl, ?_⟩) st ?_
        rotate_left
        · (intro X hX; (try dsimp only at hX); go_simp; try (with_reducible rfl))
        (try simp only [Act.put, List.setIfInBounds_toArray, List.set_cons_zero, List.set_cons_succ])
        refine wpAnyH_take (i := 7) (oi := { dst := some 24, op := .indexAddr 24 (.tmp 22) (.tmp 23), type := 0, pos := "ref.go:280", after := #[{ on := 5, ground := .data }, { on := 6, ground := .data }], guard := none }) (v := ?_) rfl (by kernel_rfl) (by kernel_rfl) (by kernel_rfl) (fun _ _ _ h => h) (Or.inl ⟨by kernel_rfl, ?_⟩) st ?_
        rotate_left
        · (intro X hX; (try dsimp only at hX); go_simp; try (with_reducible rfl))
        (try simp only [Act.put, List.setIfInBounds_toArray, List.set_cons_zero, List.set_cons_succ])
        refine wpAnyH_take (i := 8) (oi := { dst := some 25, op := .fieldAddr 33 (.tmp 24) 0, type := 0, pos := "ref.go:280", after := #[{ on := 7, ground := .data }], guard := none }) (v := ?_) rfl (by kernel_rfl) (by kernel_rfl) (by kernel_rfl) (fun _ _ _ h => h) (Or.inl ⟨by kernel_rfl, ?_⟩) st ?_
        rotate_left
        · (intro X hX; (try dsimp only at hX); go_simp; try (with_reducible rfl))
        (try simp only [Act.put, List.setIfInBounds_toArray, List.set_cons_zero, List.set_cons_succ])
        refine wpAnyH_take (i := 9) (oi := { dst := some 26, op := .load 3 (.tmp 25), type := 3, pos := "ref.go:280", after := #[{ on := 8, ground := .data }], guard := none }) (v := ?_) rfl (by kernel_rfl) (by kernel_rfl) (by kernel_rfl) (fun _ _ _ h => h) (Or.inl ⟨by kernel_rfl, ?_⟩) st ?_
        rotate_left
        · (intro X hX; (try dsimp only at hX); go_simp; try (with_reducible rfl))
        (try simp only [Act.put, List.setIfInBounds_toArray, List.set_cons_zero, List.set_cons_succ])
        by_cases x1 : ck = dk
        · subst x1
          refine wpAnyH_take (i := 10) (oi := { dst := some 27, op := .binOp .neq 3 (.tmp 21) (.tmp 26) 3, type := 4, pos := "ref.go:280", after := #[{ on := 4, ground := .data }, { on := 9, ground := .data }], guard := none }) (v := .bool false) rfl (by kernel_rfl) (by kernel_rfl) (by kernel_rfl) (fun _ _ _ h => h) (Or.inl ⟨by kernel_rfl, ?_⟩) st ?_
          · (intro X hX; (try dsimp only at hX); go_simp; try simp)
          (try simp only [Act.put, List.setIfInBounds_toArray, List.set_cons_zero, List.set_cons_succ])
          refine wpAnyH_take (i := 11) (oi := { dst := some 28, op := .move (.tmp 27), type := 4, pos := "ref.go:280", after := #[{ on := 10, ground := .data }], guard := none }) (v := ?_) rfl (by kernel_rfl) (by kernel_rfl) (by kernel_rfl) (fun _ _ _ h => h) (Or.inl ⟨by kernel_rfl, ?_⟩) st ?_
          rotate_left
          · (intro X hX; (try dsimp only at hX); go_simp; try (with_reducible rfl))
          (try simp only [Act.put, List.setIfInBounds_toArray, List.set_cons_zero, List.set_cons_succ])
          refine wpAnyH_take (i := 12) (oi := { dst := some 29, op := .move (.tmp 0), type := 24, pos := "ref.go:280", after := #[{ on := 11, ground := .guard }], guard := some (11, false) }) (v := ?_) rfl (by kernel_rfl) (by kernel_rfl) (by kernel_rfl) (fun _ _ _ h => h) (Or.inl ⟨by kernel_rfl, ?_⟩) st ?_
          rotate_left
          · (intro X hX; (try dsimp only at hX); go_simp; try (with_reducible rfl))
          (try simp only [Act.put, List.setIfInBounds_toArray, List.set_cons_zero, List.set_cons_succ])
          refine wpAnyH_take (i := 13) (oi := { dst := some 30, op := .move (.tmp 5), type := 3, pos := "ref.go:280", after := #[{ on := 11, ground := .guard }], guard := some (11, false) }) (v := ?_) rfl (by kernel_rfl) (by kernel_rfl) (by kernel_rfl) (fun _ _ _ h => h) (Or.inl ⟨by kernel_rfl, ?_⟩) st ?_
          rotate_left
          · (intro X hX; (try dsimp only at hX); go_simp; try (with_reducible rfl))
          (try simp only [Act.put, List.setIfInBounds_toArray, List.set_cons_zero, List.set_cons_succ])
          refine wpAnyH_take (i := 14) (oi := { dst := some 31, op := .indexAddr 24 (.tmp 29) (.tmp 30), type := 0, pos := "ref.go:280", after := #[{ on := 12, ground := .data }, { on := 13, ground := .data }, { on := 11, ground := .guard }], guard := some (11, false) }) (v := ?_) rfl (by kernel_rfl) (by kernel_rfl) (by kernel_rfl) (fun _ _ _ h => h) (Or.inl ⟨by kernel_rfl, ?_⟩) st ?_
          rotate_left
          · (intro X hX; (try dsimp only at hX); go_simp; try (with_reducible rfl))
          (try simp only [Act.put, List.setIfInBounds_toArray, List.set_cons_zero, List.set_cons_succ])
          refine wpAnyH_take (i := 15) (oi := { dst := some 32, op := .fieldAddr 33 (.tmp 31) 1, type := 0, pos := "ref.go:280", after := #[{ on := 14, ground := .data }, { on := 11, ground := .guard }], guard := some (11, false) }) (v := ?_) rfl (by kernel_rfl) (by kernel_rfl) (by kernel_rfl) (fun _ _ _ h => h) (Or.inl ⟨by kernel_rfl, ?_⟩) st ?_
          rotate_left
          · (intro X hX; (try dsimp only at hX); go_simp; try (with_reducible rfl))
          (try simp only [Act.put, List.setIfInBounds_toArray, List.set_cons_zero, List.set_cons_succ])
          refine wpAnyH_take (i := 16) (oi := { dst := some 33, op := .load 9 (.tmp 32), type := 9, pos := "ref.go:280", after := #[{ on := 15, ground := .data }, { on := 11, ground := .guard }], guard := some (11, false) }) (v := ?_) rfl (by kernel_rfl) (by kernel_rfl) (by kernel_rfl) (fun _ _ _ h => h) (Or.inl ⟨by kernel_rfl, ?_⟩) st ?_
          rotate_left
          · (intro X hX; (try dsimp only at hX); go_simp; try (with_reducible rfl))
          (try simp only [Act.put, List.setIfInBounds_toArray, List.set_cons_zero, List.set_cons_succ])
          refine wpAnyH_take (i := 17) (oi := { dst := some 34, op := .move (.tmp 1), type := 24, pos := "ref.go:280", after := #[{ on := 11, ground := .guard }], guard := some (11, false) }) (v := ?_) rfl (by kernel_rfl) (by kernel_rfl) (by kernel_rfl) (fun _ _ _ h => h) (Or.inl ⟨by kernel_rfl, ?_⟩) st ?_
          rotate_left
          · (intro X hX; (try dsimp only at hX); go_simp; try (with_reducible rfl))
          (try simp only [Act.put, List.setIfInBounds_toArray, List.set_cons_zero, List.set_cons_succ])
          refine wpAnyH_take (i := 18) (oi := { dst := some 35, op := .move (.tmp 5), type := 3, pos := "ref.go:280", after := #[{ on := 11, ground := .guard }], guard := some (11, false) }) (v := ?_) rfl (by kernel_rfl) (by kernel_rfl) (by kernel_rfl) (fun _ _ _ h => h) (Or.inl ⟨by kernel_rfl, ?_⟩) st ?_
          rotate_left
          · (intro X hX; (try dsimp only at hX); go_simp; try (with_reducible rfl))
          (try simp only [Act.put, List.setIfInBounds_toArray, List.set_cons_zero, List.set_cons_succ])
          refine wpAnyH_take (i := 19) (oi := { dst := some 36, op := .indexAddr 24 (.tmp 34) (.tmp 35), type := 0, pos := "ref.go:280", after := #[{ on := 17, ground := .data }, { on := 18, ground := .data }, { on := 11, ground := .guard }], guard := some (11, false) }) (v := ?_) rfl (by kernel_rfl) (by kernel_rfl) (by kernel_rfl) (fun _ _ _ h => h) (Or.inl ⟨by kernel_rfl, ?_⟩) st ?_
          rotate_left
          · (intro X hX; (try dsimp only at hX); go_simp; try (with_reducible rfl))
          (try simp only [Act.put, List.setIfInBounds_toArray, List.set_cons_zero, List.set_cons_succ])
          refine wpAnyH_take (i := 20) (oi := { dst := some 37, op := .fieldAddr 33 (.tmp 36) 1, type := 0, pos := "ref.go:280", after := #[{ on := 19, ground := .data }, { on := 11, ground := .guard }], guard := some (11, false) }) (v := ?_) rfl (by kernel_rfl) (by kernel_rfl) (by kernel_rfl) (fun _ _ _ h => h) (Or.inl ⟨by kernel_rfl, ?_⟩) st ?_
          rotate_left
          · (intro X hX; (try dsimp only at hX); go_simp; try (with_reducible rfl))
          (try simp only [Act.put, List.setIfInBounds_toArray, List.set_cons_zero, List.set_cons_succ])
          refine wpAnyH_take (i := 21) (oi := { dst := some 38, op := .load 9 (.tmp 37), type := 9, pos := "ref.go:280", after := #[{ on := 20, ground := .data }, { on := 11, ground := .guard }], guard := some (11, false) }) (v := ?_) rfl (by kernel_rfl) (by kernel_rfl) (by kernel_rfl) (fun _ _ _ h => h) (Or.inl ⟨by kernel_rfl, ?_⟩) st ?_
          rotate_left
          · (intro X hX; (try dsimp only at hX); go_simp; try (with_reducible rfl))
          (try simp only [Act.put, List.setIfInBounds_toArray, List.set_cons_zero, List.set_cons_succ])
          by_cases x2 : ct = dt
          · subst x2
            refine wpAnyH_take (i := 22) (oi := { dst := some 39, op := .binOp .neq 9 (.tmp 33) (.tmp 38) 9, type := 4, pos := "ref.go:280", after := #[{ on := 16, ground := .data }, { on := 21, ground := .data }, { on := 11, ground := .guard }], guard := some (11, false) }) (v := .bool false) rfl (by kernel_rfl) (by kernel_rfl) (by kernel_rfl) (fun _ _ _ h => h) (Or.inl ⟨by kernel_rfl, ?_⟩) st ?_
            · (intro X hX; (try dsimp only at hX); go_simp; try simp)
            (try simp only [Act.put, List.setIfInBounds_toArray, List.set_cons_zero, List.set_cons_succ])
            refine wpAnyH_take (i := 23) (oi := { dst := some 40, op := .pick (.tmp 28) (.const (.bool true)) (.tmp 39), type := 4, pos := "ref.go:280", after := #[{ on := 11, ground := .data }, { on := 22, ground := .data }], guard := none }) (v := ?_) rfl (by kernel_rfl) (by kernel_rfl) (by kernel_rfl) (fun _ _ _ h => h) (Or.inl ⟨by kernel_rfl, ?_⟩) st ?_
            rotate_left
            · (intro X hX; (try dsimp only at hX); go_simp; try (with_reducible rfl))
            (try simp only [Act.put, List.setIfInBounds_toArray, List.set_cons_zero, List.set_cons_succ])
            refine wpAnyH_take (i := 24) (oi := { dst := some 41, op := .move (.tmp 40), type := 4, pos := "ref.go:280", after := #[{ on := 23, ground := .data }, { on := 11, ground := .chain }], guard := none }) (v := ?_) rfl (by kernel_rfl) (by kernel_rfl) (by kernel_rfl) (fun _ _ _ h => h) (Or.inl ⟨by kernel_rfl, ?_⟩) st ?_
            rotate_left
            · (intro X hX; (try dsimp only at hX); go_simp; try (with_reducible rfl))
            (try simp only [Act.put, List.setIfInBounds_toArray, List.set_cons_zero, List.set_cons_succ])
            refine wpAnyH_take (i := 25) (oi := { dst := some 42, op := .move (.tmp 0), type := 24, pos := "ref.go:280", after := #[{ on := 24, ground := .guard }], guard := some (24, false) }) (v := ?_) rfl (by kernel_rfl) (by kernel_rfl) (by kernel_rfl) (fun _ _ _ h => h) (Or.inl ⟨by kernel_rfl, ?_⟩) st ?_
            rotate_left
            · (intro X hX; (try dsimp only at hX); go_simp; try (with_reducible rfl))
            (try simp only [Act.put, List.setIfInBounds_toArray, List.set_cons_zero, List.set_cons_succ])
            refine wpAnyH_take (i := 26) (oi := { dst := some 43, op := .move (.tmp 5), type := 3, pos := "ref.go:280", after := #[{ on := 24, ground := .guard }], guard := some (24, false) }) (v := ?_) rfl (by kernel_rfl) (by kernel_rfl) (by kernel_rfl) (fun _ _ _ h => h) (Or.inl ⟨by kernel_rfl, ?_⟩) st ?_
            rotate_left
            · (intro X hX; (try dsimp only at hX); go_simp; try (with_reducible rfl))
            (try simp only [Act.put, List.setIfInBounds_toArray, List.set_cons_zero, List.set_cons_succ])
            refine wpAnyH_take (i := 27) (oi := { dst := some 44, op := .indexAddr 24 (.tmp 42) (.tmp 43), type := 0, pos := "ref.go:280", after := #[{ on := 25, ground := .data }, { on := 26, ground := .data }, { on := 24, ground := .guard }], guard := some (24, false) }) (v := ?_) rfl (by kernel_rfl) (by kernel_rfl) (by kernel_rfl) (fun _ _ _ h => h) (Or.inl ⟨by kernel_rfl, ?_⟩) st ?_
            rotate_left
            · (intro X hX; (try dsimp only at hX); go_simp; try (with_reducible rfl))
            (try simp only [Act.put, List.setIfInBounds_toArray, List.set_cons_zero, List.set_cons_succ])
            refine wpAnyH_take (i := 28) (oi := { dst := some 45, op := .fieldAddr 33 (.tmp 44) 3, type := 0, pos := "ref.go:280", after := #[{ on := 27, ground := .data }, { on := 24, ground := .guard }], guard := some (24, false) }) (v := ?_) rfl (by kernel_rfl) (by kernel_rfl) (by kernel_rfl) (fun _ _ _ h => h) (Or.inl ⟨by kernel_rfl, ?_⟩) st ?_
            rotate_left
            · (intro X hX; (try dsimp only at hX); go_simp; try (with_reducible rfl))
            (try simp only [Act.put, List.setIfInBounds_toArray, List.set_cons_zero, List.set_cons_succ])
            refine wpAnyH_take (i := 29) (oi := { dst := some 46, op := .load 4 (.tmp 45), type := 4, pos := "ref.go:280", after := #[{ on := 28, ground := .data }, { on := 24, ground := .guard }], guard := some (24, false) }) (v := ?_) rfl (by kernel_rfl) (by kernel_rfl) (by kernel_rfl) (fun _ _ _ h => h) (Or.inl ⟨by kernel_rfl, ?_⟩) st ?_
            rotate_left
            · (intro X hX; (try dsimp only at hX); go_simp; try (with_reducible rfl))
            (try simp only [Act.put, List.setIfInBounds_toArray, List.set_cons_zero, List.set_cons_succ])
            refine wpAnyH_take (i := 30) (oi := { dst := some 47, op := .move (.tmp 1), type := 24, pos := "ref.go:280", after := #[{ on := 24, ground := .guard }], guard := some (24, false) }) (v := ?_) rfl (by kernel_rfl) (by kernel_rfl) (by kernel_rfl) (fun _ _ _ h => h) (Or.inl ⟨by kernel_rfl, ?_⟩) st ?_
            rotate_left
            · (intro X hX; (try dsimp only at hX); go_simp; try (with_reducible rfl))
            (try simp only [Act.put, List.setIfInBounds_toArray, List.set_cons_zero, List.set_cons_succ])
            refine wpAnyH_take (i := 31) (oi := { dst := some 48, op := .move (.tmp 5), type := 3, pos := "ref.go:280", after := #[{ on := 24, ground := .guard }], guard := some (24, false) }) (v := ?_) rfl (by kernel_rfl) (by kernel_rfl) (by kernel_rfl) (fun _ _ _ h => h) (Or.inl ⟨by kernel_rfl, ?_⟩) st ?_
            rotate_left
            · (intro X hX; (try dsimp only at hX); go_simp; try (with_reducible rfl))
            (try simp only [Act.put, List.setIfInBounds_toArray, List.set_cons_zero, List.set_cons_succ])
            refine wpAnyH_take (i := 32) (oi := { dst := some 49, op := .indexAddr 24 (.tmp 47) (.tmp 48), type := 0, pos := "ref.go:280", after := #[{ on := 30, ground := .data }, { on := 31, ground := .data }, { on := 24, ground := .guard }], guard := some (24, false) }) (v := ?_) rfl (by kernel_rfl) (by kernel_rfl) (by kernel_rfl) (fun _ _ _ h => h) (Or.inl ⟨by kernel_rfl, ?_⟩) st ?_
            rotate_left
            · (intro X hX; (try dsimp only at hX); go_simp; try (with_reducible rfl))
            (try simp only [Act.put, List.setIfInBounds_toArray, List.set_cons_zero, List.set_cons_succ])
            refine wpAnyH_take (i := 33) (oi := { dst := some 50, op := .fieldAddr 33 (.tmp 49) 3, type := 0, pos := "ref.go:280", after := #[{ on := 32, ground := .data }, { on := 24, ground := .guard }], guard := some (24, false) }) (v := ?_) rfl (by kernel_rfl) (by kernel_rfl) (by kernel_rfl) (fun _ _ _ h => h) (Or.inl ⟨by kernel_rfl, ?_⟩) st ?_
            rotate_left
            · (intro X hX; (try dsimp only at hX); go_simp; try (with_reducible rfl))
            (try simp only [Act.put, List.setIfInBounds_toArray, List.set_cons_zero, List.set_cons_succ])
            refine wpAnyH_take (i := 34) (oi := { dst := some 51, op := .load 4 (.tmp 50), type := 4, pos := "ref.go:280", after := #[{ on := 33, ground := .data }, { on := 24, ground := .guard }], guard := some (24, false) }) (v := ?_) rfl (by kernel_rfl) (by kernel_rfl) (by kernel_rfl) (fun _ _ _ h => h) (Or.inl ⟨by kernel_rfl, ?_⟩) st ?_
            rotate_left
            · (intro X hX; (try dsimp only at hX); go_simp; try (with_reducible rfl))
            (try simp only [Act.put, List.setIfInBounds_toArray, List.set_cons_zero, List.set_cons_succ])
            by_cases x3 : cg = dg
            · subst x3
              refine wpAnyH_take (i := 35) (oi := { dst := some 52, op := .binOp .neq 4 (.tmp 46) (.tmp 51) 4, type := 4, pos := "ref.go:280", after := #[{ on := 29, ground := .data }, { on := 34, ground := .data }, { on := 24, ground := .guard }], guard := some (24, false) }) (v := .bool false) rfl (by kernel_rfl) (by kernel_rfl) (by kernel_rfl) (fun _ _ _ h => h) (Or.inl ⟨by kernel_rfl, ?_⟩) st ?_
              · (intro X hX; (try dsimp only at hX); go_simp; try simp)
              (try simp only [Act.put, List.setIfInBounds_toArray, List.set_cons_zero, List.set_cons_succ])
              refine wpAnyH_take (i := 36) (oi := { dst := some 53, op := .pick (.tmp 41) (.const (.bool true)) (.tmp 52), type := 4, pos := "ref.go:280", after := #[{ on := 24, ground := .data }, { on := 35, ground := .data }], guard := none }) (v := ?_) rfl (by kernel_rfl) (by kernel_rfl) (by kernel_rfl) (fun _ _ _ h => h) (Or.inl ⟨by kernel_rfl, ?_⟩) st ?_
              rotate_left
              · (intro X hX; (try dsimp only at hX); go_simp; try (with_reducible rfl))
              (try simp only [Act.put, List.setIfInBounds_toArray, List.set_cons_zero, List.set_cons_succ])
              refine wpAnyH_take (i := 37) (oi := { dst := some 54, op := .move (.tmp 53), type := 4, pos := "ref.go:280", after := #[{ on := 36, ground := .data }, { on := 24, ground := .chain }], guard := none }) (v := ?_) rfl (by kernel_rfl) (by kernel_rfl) (by kernel_rfl) (fun _ _ _ h => h) (Or.inl ⟨by kernel_rfl, ?_⟩) st ?_
              rotate_left
              · (intro X hX; (try dsimp only at hX); go_simp; try (with_reducible rfl))
              (try simp only [Act.put, List.setIfInBounds_toArray, List.set_cons_zero, List.set_cons_succ])
              refine wpAnyH_take (i := 38) (oi := { dst := some 55, op := .move (.tmp 0), type := 24, pos := "ref.go:280", after := #[{ on := 37, ground := .guard }], guard := some (37, false) }) (v := ?_) rfl (by kernel_rfl) (by kernel_rfl) (by kernel_rfl) (fun _ _ _ h => h) (Or.inl ⟨by kernel_rfl, ?_⟩) st ?_
              rotate_left
              · (intro X hX; (try dsimp only at hX); go_simp; try (with_reducible rfl))
              (try simp only [Act.put, List.setIfInBounds_toArray, List.set_cons_zero, List.set_cons_succ])
              refine wpAnyH_take (i := 39) (oi := { dst := some 56, op := .move (.tmp 5), type := 3, pos := "ref.go:280", after := #[{ on := 37, ground := .guard }], guard := some (37, false) }) (v := ?_) rfl (by kernel_rfl) (by kernel_rfl) (by kernel_rfl) (fun _ _ _ h => h) (Or.inl ⟨by kernel_rfl, ?_⟩) st ?_
              rotate_left
              · (intro X hX; (try dsimp only at hX); go_simp; try (with_reducible rfl))
              (try simp only [Act.put, List.setIfInBounds_toArray, List.set_cons_zero, List.set_cons_succ])
              refine wpAnyH_take (i := 40) (oi := { dst := some 57, op := .indexAddr 24 (.tmp 55) (.tmp 56), type := 0, pos := "ref.go:280", after := #[{ on := 38, ground := .data }, { on := 39, ground := .data }, { on := 37, ground := .guard }], guard := some (37, false) }) (v := ?_) rfl (by kernel_rfl) (by kernel_rfl) (by kernel_rfl) (fun _ _ _ h => h) (Or.inl ⟨by kernel_rfl, ?_⟩) st ?_
              rotate_left
              · (intro X hX; (try dsimp only at hX); go_simp; try (with_reducible rfl))
              (try simp only [Act.put, List.setIfInBounds_toArray, List.set_cons_zero, List.set_cons_succ])
              refine wpAnyH_take (i := 41) (oi := { dst := some 58, op := .fieldAddr 33 (.tmp 57) 2, type := 0, pos := "ref.go:280", after := #[{ on := 40, ground := .data }, { on := 37, ground := .guard }], guard := some (37, false) }) (v := ?_) rfl (by kernel_rfl) (by kernel_rfl) (by kernel_rfl) (fun _ _ _ h => h) (Or.inl ⟨by kernel_rfl, ?_⟩) st ?_
              rotate_left
              · (intro X hX; (try dsimp only at hX); go_simp; try (with_reducible rfl))
              (try simp only [Act.put, List.setIfInBounds_toArray, List.set_cons_zero, List.set_cons_succ])
              refine wpAnyH_take (i := 42) (oi := { dst := some 59, op := .load 24 (.tmp 58), type := 24, pos := "ref.go:280", after := #[{ on := 41, ground := .data }, { on := 37, ground := .guard }], guard := some (37, false) }) (v := ?_) rfl (by kernel_rfl) (by kernel_rfl) (by kernel_rfl) (fun _ _ _ h => h) (Or.inl ⟨by kernel_rfl, ?_⟩) st ?_
              rotate_left
              · (intro X hX; (try dsimp only at hX); go_simp; try (with_reducible rfl))
              (try simp only [Act.put, List.setIfInBounds_toArray, List.set_cons_zero, List.set_cons_succ])
              refine wpAnyH_take (i := 43) (oi := { dst := some 60, op := .move (.tmp 1), type := 24, pos := "ref.go:280", after := #[{ on := 37, ground := .guard }], guard := some (37, false) }) (v := ?_) rfl (by kernel_rfl) (by kernel_rfl) (by kernel_rfl) (fun _ _ _ h => h) (Or.inl ⟨by kernel_rfl, ?_⟩) st ?_
              rotate_left
              · (intro X hX; (try dsimp only at hX); go_simp; try (with_reducible rfl))
              (try simp only [Act.put, List.setIfInBounds_toArray, List.set_cons_zero, List.set_cons_succ])
              refine wpAnyH_take (i := 44) (oi := { dst := some 61, op := .move (.tmp 5), type := 3, pos := "ref.go:280", after := #[{ on := 37, ground := .guard }], guard := some (37, false) }) (v := ?_) rfl (by kernel_rfl) (by kernel_rfl) (by kernel_rfl) (fun _ _ _ h => h) (Or.inl ⟨by kernel_rfl, ?_⟩) st ?_
              rotate_left
              · (intro X hX; (try dsimp only at hX); go_simp; try (with_reducible rfl))
              (try simp only [Act.put, List.setIfInBounds_toArray, List.set_cons_zero, List.set_cons_succ])
              refine wpAnyH_take (i := 45) (oi := { dst := some 62, op := .indexAddr 24 (.tmp 60) (.tmp 61), type := 0, pos := "ref.go:280", after := #[{ on := 43, ground := .data }, { on := 44, ground := .data }, { on := 37, ground := .guard }], guard := some (37, false) }) (v := ?_) rfl (by kernel_rfl) (by kernel_rfl) (by kernel_rfl) (fun _ _ _ h => h) (Or.inl ⟨by kernel_rfl, ?_⟩) st ?_
              rotate_left
              · (intro X hX; (try dsimp only at hX); go_simp; try (with_reducible rfl))
              (try simp only [Act.put, List.setIfInBounds_toArray, List.set_cons_zero, List.set_cons_succ])
              refine wpAnyH_take (i := 46) (oi := { dst := some 63, op := .fieldAddr 33 (.tmp 62) 2, type := 0, pos := "ref.go:280", after := #[{ on := 45, ground := .data }, { on := 37, ground := .guard }], guard := some (37, false) }) (v := ?_) rfl (by kernel_rfl) (by kernel_rfl) (by kernel_rfl) (fun _ _ _ h => h) (Or.inl ⟨by kernel_rfl, ?_⟩) st ?_
              rotate_left
              · (intro X hX; (try dsimp only at hX); go_simp; try (with_reducible rfl))
              (try simp only [Act.put, List.setIfInBounds_toArray, List.set_cons_zero, List.set_cons_succ])
              refine wpAnyH_take (i := 47) (oi := { dst := some 64, op := .load 24 (.tmp 63), type := 24, pos := "ref.go:280", after := #[{ on := 46, ground := .data }, { on := 37, ground := .guard }], guard := some (37, false) }) (v := ?_) rfl (by kernel_rfl) (by kernel_rfl) (by kernel_rfl) (fun _ _ _ h => h) (Or.inl ⟨by kernel_rfl, ?_⟩) st ?_
              rotate_left
              · (intro X hX; (try dsimp only at hX); go_simp; try (with_reducible rfl))
              (try simp only [Act.put, List.setIfInBounds_toArray, List.set_cons_zero, List.set_cons_succ])
              refine wpAnyH_ready (rs := [48]) (by kernel_rfl) (by simp) ?_
              refine AllReadyH.cons (o := { dst := some 65, op := .call { callee := .value (.func 21), args := #[.tmp 59, .tmp 64], argTypes := #[24, 24] }, type := 4, pos := "ref.go:280", after := #[{ on := 42, ground := .data }, { on := 47, ground := .data }, { on := 37, ground := .chain }, { on := 37, ground := .guard }], guard := some (37, false) }) rfl (fun K hK => ?_) AllReadyH.nil
              go_simp
              refine (HS.out _ st.2.2.2.2.2.2.2.2.1.out).mono ?_
              rintro e w3 ⟨rfl, hb3⟩
              have st2 := st.on hb3
              clear st HS
              dsimp only
              refine hK.out _ _ st2 (fun hHeld => ?_)
              clear hHeld hK K
              (try simp only [Act.put, List.setIfInBounds_toArray, List.set_cons_zero, List.set_cons_succ])
              refine wpAnyH_take (i := 49) (oi := { dst := some 66, op := .unOp .not 4 (.tmp 65), type := 4, pos := "ref.go:280", after := #[{ on := 48, ground := .data }, { on := 37, ground := .guard }], guard := some (37, false) }) (v := ?_) rfl (by kernel_rfl) (by kernel_rfl) (by kernel_rfl) (fun _ _ _ h => h) (Or.inl ⟨by kernel_rfl, ?_⟩) st2 ?_
              rotate_left
              · (intro X hX; (try dsimp only at hX); go_simp; try (with_reducible rfl))
              (try simp only [Act.put, List.setIfInBounds_toArray, List.set_cons_zero, List.set_cons_succ])
              refine wpAnyH_take (i := 50) (oi := { dst := some 67, op := .pick (.tmp 54) (.const (.bool true)) (.tmp 66), type := 4, pos := "ref.go:280", after := #[{ on := 37, ground := .data }, { on := 49, ground := .data }], guard := none }) (v := ?_) rfl (by kernel_rfl) (by kernel_rfl) (by kernel_rfl) (fun _ _ _ h => h) (Or.inl ⟨by kernel_rfl, ?_⟩) st2 ?_
              rotate_left
              · (intro X hX; (try dsimp only at hX); go_simp; try (with_reducible rfl))
              (try simp only [Act.put, List.setIfInBounds_toArray, List.set_cons_zero, List.set_cons_succ])
              refine wpAnyH_done (by kernel_rfl) ?_ _
              cases bb with
              | true =>
                have HEQ : Hid (d1 = d2) := Lib.hid (by rw [HE1.out, HE2.out, eqL_eq _ _ HBB.out])
                go_wp2_with fail
                go_roundg (l.length - (k + 1))
                case measure => omega
                case rel =>
                  refine ⟨k + 1, _, rfl, hlt, Nat.le_refl _, by go_num, st2.2.2.2.2.2.2.2.2.2, Lib.hid fun j hj => ?_⟩
                  by_cases e : j = k
                  · subst e; exact HD12.out.1.trans (HEQ.out.trans HD12.out.2.symm)
                  · exact HALL.out j (by omega)
              | false =>
                have HF := Lib.hid (HNO.out (fun e => by have := HBB.out; rw [← hcl.out, ← hdl.out, e, eqL_refl2] at this; cases this))
                go_wp2_with fail
                go_ret
                exact ⟨ret_bool HF.out.symm, st2.2.2.2.2.2.2.2.2.2.out⟩
            · have HF := Lib.hid (HNO.out (fun e => x3 (by rw [← hcg.out, ← hdg.out, e])))
              refine wpAnyH_take (i := 35) (oi := { dst := some 52, op := .binOp .neq 4 (.tmp 46) (.tmp 51) 4, type := 4, pos := "ref.go:280", after := #[{ on := 29, ground := .data }, { on := 34, ground := .data }, { on := 24, ground := .guard }], guard := some (24, false) }) (v := .bool true) rfl (by kernel_rfl) (by kernel_rfl) (by kernel_rfl) (fun _ _ _ h => h) (Or.inl ⟨by kernel_rfl, ?_⟩) st ?_
              · (intro X hX; (try dsimp only at hX); go_simp; try simp [x3])
              (try simp only [Act.put, List.setIfInBounds_toArray, List.set_cons_zero, List.set_cons_succ])
              refine wpAnyH_take (i := 36) (oi := { dst := some 53, op := .pick (.tmp 41) (.const (.bool true)) (.tmp 52), type := 4, pos := "ref.go:280", after := #[{ on := 24, ground := .data }, { on := 35, ground := .data }], guard := none }) (v := ?_) rfl (by kernel_rfl) (by kernel_rfl) (by kernel_rfl) (fun _ _ _ h => h) (Or.inl ⟨by kernel_rfl, ?_⟩) st ?_
              rotate_left
              · (intro X hX; (try dsimp only at hX); go_simp; try (with_reducible rfl))
              (try simp only [Act.put, List.setIfInBounds_toArray, List.set_cons_zero, List.set_cons_succ])
              refine wpAnyH_take (i := 37) (oi := { dst := some 54, op := .move (.tmp 53), type := 4, pos := "ref.go:280", after := #[{ on := 36, ground := .data }, { on := 24, ground := .chain }], guard := none }) (v := ?_) rfl (by kernel_rfl) (by kernel_rfl) (by kernel_rfl) (fun _ _ _ h => h) (Or.inl ⟨by kernel_rfl, ?_⟩) st ?_
              rotate_left
              · (intro X hX; (try dsimp only at hX); go_simp; try (with_reducible rfl))
              (try simp only [Act.put, List.setIfInBounds_toArray, List.set_cons_zero, List.set_cons_succ])
              refine wpAnyH_take (i := 38) (oi := { dst := some 55, op := .move (.tmp 0), type := 24, pos := "ref.go:280", after := #[{ on := 37, ground := .guard }], guard := some (37, false) }) (v := undef) rfl (by kernel_rfl) (by kernel_rfl) (by kernel_rfl) (fun _ _ _ h => h) (Or.inr ⟨by kernel_rfl, rfl⟩) st ?_
              (try simp only [Act.put, List.setIfInBounds_toArray, List.set_cons_zero, List.set_cons_succ])
              refine wpAnyH_take (i := 39) (oi := { dst := some 56, op := .move (.tmp 5), type := 3, pos := "ref.go:280", after := #[{ on := 37, ground := .guard }], guard := some (37, false) }) (v := undef) rfl (by kernel_rfl) (by kernel_rfl) (by kernel_rfl) (fun _ _ _ h => h) (Or.inr ⟨by kernel_rfl, rfl⟩) st ?_
              (try simp only [Act.put, List.setIfInBounds_toArray, List.set_cons_zero, List.set_cons_succ])
              refine wpAnyH_take (i := 40) (oi := { dst := some 57, op := .indexAddr 24 (.tmp 55) (.tmp 56), type := 0, pos := "ref.go:280", after := #[{ on := 38, ground := .data }, { on := 39, ground := .data }, { on := 37, ground := .guard }], guard := some (37, false) }) (v := undef) rfl (by kernel_rfl) (by kernel_rfl) (by kernel_rfl) (fun _ _ _ h => h) (Or.inr ⟨by kernel_rfl, rfl⟩) st ?_
              (try simp only [Act.put, List.setIfInBounds_toArray, List.set_cons_zero, List.set_cons_succ])
              refine wpAnyH_take (i := 41) (oi := { dst := some 58, op := .fieldAddr 33 (.tmp 57) 2, type := 0, pos := "ref.go:280", after := #[{ on := 40, ground := .data }, { on := 37, ground := .guard }], guard := some (37, false) }) (v := undef) rfl (by kernel_rfl) (by kernel_rfl) (by kernel_rfl) (fun _ _ _ h => h) (Or.inr ⟨by kernel_rfl, rfl⟩) st ?_
              (try simp only [Act.put, List.setIfInBounds_toArray, List.set_cons_zero, List.set_cons_succ])
              refine wpAnyH_take (i := 42) (oi := { dst := some 59, op := .load 24 (.tmp 58), type := 24, pos := "ref.go:280", after := #[{ on := 41, ground := .data }, { on := 37, ground := .guard }], guard := some (37, false) }) (v := undef) rfl (by kernel_rfl) (by kernel_rfl) (by kernel_rfl) (fun _ _ _ h => h) (Or.inr ⟨by kernel_rfl, rfl⟩) st ?_
              (try simp only [Act.put, List.setIfInBounds_toArray, List.set_cons_zero, List.set_cons_succ])
              refine wpAnyH_take (i := 43) (oi := { dst := some 60, op := .move (.tmp 1), type := 24, pos := "ref.go:280", after := #[{ on := 37, ground := .guard }], guard := some (37, false) }) (v := undef) rfl (by kernel_rfl) (by kernel_rfl) (by kernel_rfl) (fun _ _ _ h => h) (Or.inr ⟨by kernel_rfl, rfl⟩) st ?_
              (try simp only [Act.put, List.setIfInBounds_toArray, List.set_cons_zero, List.set_cons_succ])
              refine wpAnyH_take (i := 44) (oi := { dst := some 61, op := .move (.tmp 5), type := 3, pos := "ref.go:280", after := #[{ on := 37, ground := .guard }], guard := some (37, false) }) (v := undef) rfl (by kernel_rfl) (by kernel_rfl) (by kernel_rfl) (fun _ _ _ h => h) (Or.inr ⟨by kernel_rfl, rfl⟩) st ?_
              (try simp only [Act.put, List.setIfInBounds_toArray, List.set_cons_zero, List.set_cons_succ])
              refine wpAnyH_take (i := 45) (oi := { dst := some 62, op := .indexAddr 24 (.tmp 60) (.tmp 61), type := 0, pos := "ref.go:280", after := #[{ on := 43, ground := .data }, { on := 44, ground := .data }, { on := 37, ground := .guard }], guard := some (37, false) }) (v := undef) rfl (by kernel_rfl) (by kernel_rfl) (by kernel_rfl) (fun _ _ _ h => h) (Or.inr ⟨by kernel_rfl, rfl⟩) st ?_
              (try simp only [Act.put, List.setIfInBounds_toArray, List.set_cons_zero, List.set_cons_succ])
              refine wpAnyH_take (i := 46) (oi := { dst := some 63, op := .fieldAddr 33 (.tmp 62) 2, type := 0, pos := "ref.go:280", after := #[{ on := 45, ground := .data }, { on := 37, ground := .guard }], guard := some (37, false) }) (v := undef) rfl (by kernel_rfl) (by kernel_rfl) (by kernel_rfl) (fun _ _ _ h => h) (Or.inr ⟨by kernel_rfl, rfl⟩) st ?_
              (try simp only [Act.put, List.setIfInBounds_toArray, List.set_cons_zero, List.set_cons_succ])
              refine wpAnyH_take (i := 47) (oi := { dst := some 64, op := .load 24 (.tmp 63), type := 24, pos := "ref.go:280", after := #[{ on := 46, ground := .data }, { on := 37, ground := .guard }], guard := some (37, false) }) (v := undef) rfl (by kernel_rfl) (by kernel_rfl) (by kernel_rfl) (fun _ _ _ h => h) (Or.inr ⟨by kernel_rfl, rfl⟩) st ?_
              (try simp only [Act.put, List.setIfInBounds_toArray, List.set_cons_zero, List.set_cons_succ])
              refine wpAnyH_take (i := 48) (oi := { dst := some 65, op := .call { callee := .value (.func 21), args := #[.tmp 59, .tmp 64], argTypes := #[24, 24] }, type := 4, pos := "ref.go:280", after := #[{ on := 42, ground := .data }, { on := 47, ground := .data }, { on := 37, ground := .chain }, { on := 37, ground := .guard }], guard := some (37, false) }) (v := undef) rfl (by kernel_rfl) (by kernel_rfl) (by kernel_rfl) (fun _ _ _ h => h) (Or.inr ⟨by kernel_rfl, rfl⟩) st ?_
              (try simp only [Act.put, List.setIfInBounds_toArray, List.set_cons_zero, List.set_cons_succ])
              refine wpAnyH_take (i := 49) (oi := { dst := some 66, op := .unOp .not 4 (.tmp 65), type := 4, pos := "ref.go:280", after := #[{ on := 48, ground := .data }, { on := 37, ground := .guard }], guard := some (37, false) }) (v := undef) rfl (by kernel_rfl) (by kernel_rfl) (by kernel_rfl) (fun _ _ _ h => h) (Or.inr ⟨by kernel_rfl, rfl⟩) st ?_
              (try simp only [Act.put, List.setIfInBounds_toArray, List.set_cons_zero, List.set_cons_succ])
              refine wpAnyH_take (i := 50) (oi := { dst := some 67, op := .pick (.tmp 54) (.const (.bool true)) (.tmp 66), type := 4, pos := "ref.go:280", after := #[{ on := 37, ground := .data }, { on := 49, ground := .data }], guard := none }) (v := ?_) rfl (by kernel_rfl) (by kernel_rfl) (by kernel_rfl) (fun _ _ _ h => h) (Or.inl ⟨by kernel_rfl, ?_⟩) st ?_
              rotate_left
              · (intro X hX; (try dsimp only at hX); go_simp; try (with_reducible rfl))
              (try simp only [Act.put, List.setIfInBounds_toArray, List.set_cons_zero, List.set_cons_succ])
              refine wpAnyH_done (by kernel_rfl) ?_ _
              go_wp2_with fail
              go_ret
              exact ⟨ret_bool HF.out.symm, st.2.2.2.2.2.2.2.2.2.out⟩
          · have HF := Lib.hid (HNO.out (fun e => x2 (by rw [← hct.out, ← hdt.out, e])))
            have hne : (ct.toList == dt.toList) = false := by rw [txt_eq, decide_eq_false x2]
            refine wpAnyH_take (i := 22) (oi := { dst := some 39, op := .binOp .neq 9 (.tmp 33) (.tmp 38) 9, type := 4, pos := "ref.go:280", after := #[{ on := 16, ground := .data }, { on := 21, ground := .data }, { on := 11, ground := .guard }], guard := some (11, false) }) (v := .bool true) rfl (by kernel_rfl) (by kernel_rfl) (by kernel_rfl) (fun _ _ _ h => h) (Or.inl ⟨by kernel_rfl, ?_⟩) st ?_
            · (intro X hX; (try dsimp only at hX); go_simp; try simp [hne])
            (try simp only [Act.put, List.setIfInBounds_toArray, List.set_cons_zero, List.set_cons_succ])
            refine wpAnyH_take (i := 23) (oi := { dst := some 40, op := .pick (.tmp 28) (.const (.bool true)) (.tmp 39), type := 4, pos := "ref.go:280", after := #[{ on := 11, ground := .data }, { on := 22, ground := .data }], guard := none }) (v := ?_) rfl (by kernel_rfl) (by kernel_rfl) (by kernel_rfl) (fun _ _ _ h => h) (Or.inl ⟨by kernel_rfl, ?_⟩) st ?_
            rotate_left
            · (intro X hX; (try dsimp only at hX); go_simp; try (with_reducible rfl))
            (try simp only [Act.put, List.setIfInBounds_toArray, List.set_cons_zero, List.set_cons_succ])
            refine wpAnyH_take (i := 24) (oi := { dst := some 41, op := .move (.tmp 40), type := 4, pos := "ref.go:280", after := #[{ on := 23, ground := .data }, { on := 11, ground := .chain }], guard := none }) (v := ?_) rfl (by kernel_rfl) (by kernel_rfl) (by kernel_rfl) (fun _ _ _ h => h) (Or.inl ⟨by kernel_rfl, ?_⟩) st ?_
            rotate_left
            · (intro X hX; (try dsimp only at hX); go_simp; try (with_reducible rfl))
            (try simp only [Act.put, List.setIfInBounds_toArray, List.set_cons_zero, List.set_cons_succ])
            refine wpAnyH_take (i := 25) (oi := { dst := some 42, op := .move (.tmp 0), type := 24, pos := "ref.go:280", after := #[{ on := 24, ground := .guard }], guard := some (24, false) }) (v := undef) rfl (by kernel_rfl) (by kernel_rfl) (by kernel_rfl) (fun _ _ _ h => h) (Or.inr ⟨by kernel_rfl, rfl⟩) st ?_
            (try simp only [Act.put, List.setIfInBounds_toArray, List.set_cons_zero, List.set_cons_succ])
            refine wpAnyH_take (i := 26) (oi := { dst := some 43, op := .move (.tmp 5), type := 3, pos := "ref.go:280", after := #[{ on := 24, ground := .guard }], guard := some (24, false) }) (v := undef) rfl (by kernel_rfl) (by kernel_rfl) (by kernel_rfl) (fun _ _ _ h => h) (Or.inr ⟨by kernel_rfl, rfl⟩) st ?_
            (try simp only [Act.put, List.setIfInBounds_toArray, List.set_cons_zero, List.set_cons_succ])
            refine wpAnyH_take (i := 27) (oi := { dst := some 44, op := .indexAddr 24 (.tmp 42) (.tmp 43), type := 0, pos := "ref.go:280", after := #[{ on := 25, ground := .data }, { on := 26, ground := .data }, { on := 24, ground := .guard }], guard := some (24, false) }) (v := undef) rfl (by kernel_rfl) (by kernel_rfl) (by kernel_rfl) (fun _ _ _ h => h) (Or.inr ⟨by kernel_rfl, rfl⟩) st ?_
            (try simp only [Act.put, List.setIfInBounds_toArray, List.set_cons_zero, List.set_cons_succ])
            refine wpAnyH_take (i := 28) (oi := { dst := some 45, op := .fieldAddr 33 (.tmp 44) 3, type := 0, pos := "ref.go:280", after := #[{ on := 27, ground := .data }, { on := 24, ground := .guard }], guard := some (24, false) }) (v := undef) rfl (by kernel_rfl) (by kernel_rfl) (by kernel_rfl) (fun _ _ _ h => h) (Or.inr ⟨by kernel_rfl, rfl⟩) st ?_
            (try simp only [Act.put, List.setIfInBounds_toArray, List.set_cons_zero, List.set_cons_succ])
            refine wpAnyH_take (i := 29) (oi := { dst := some 46, op := .load 4 (.tmp 45), type := 4, pos := "ref.go:280", after := #[{ on := 28, ground := .data }, { on := 24, ground := .guard }], guard := some (24, false) }) (v := undef) rfl (by kernel_rfl) (by kernel_rfl) (by kernel_rfl) (fun _ _ _ h => h) (Or.inr ⟨by kernel_rfl, rfl⟩) st ?_
            (try simp only [Act.put, List.setIfInBounds_toArray, List.set_cons_zero, List.set_cons_succ])
            refine wpAnyH_take (i := 30) (oi := { dst := some 47, op := .move (.tmp 1), type := 24, pos := "ref.go:280", after := #[{ on := 24, ground := .guard }], guard := some (24, false) }) (v := undef) rfl (by kernel_rfl) (by kernel_rfl) (by kernel_rfl) (fun _ _ _ h => h) (Or.inr ⟨by kernel_rfl, rfl⟩) st ?_
            (try simp only [Act.put, List.setIfInBounds_toArray, List.set_cons_zero, List.set_cons_succ])
            refine wpAnyH_take (i := 31) (oi := { dst := some 48, op := .move (.tmp 5), type := 3, pos := "ref.go:280", after := #[{ on := 24, ground := .guard }], guard := some (24, false) }) (v := undef) rfl (by kernel_rfl) (by kernel_rfl) (by kernel_rfl) (fun _ _ _ h => h) (Or.inr ⟨by kernel_rfl, rfl⟩) st ?_
            (try simp only [Act.put, List.setIfInBounds_toArray, List.set_cons_zero, List.set_cons_succ])
            refine wpAnyH_take (i := 32) (oi := { dst := some 49, op := .indexAddr 24 (.tmp 47) (.tmp 48), type := 0, pos := "ref.go:280", after := #[{ on := 30, ground := .data }, { on := 31, ground := .data }, { on := 24, ground := .guard }], guard := some (24, false) }) (v := undef) rfl (by kernel_rfl) (by kernel_rfl) (by kernel_rfl) (fun _ _ _ h => h) (Or.inr ⟨by kernel_rfl, rfl⟩) st ?_
            (try simp only [Act.put, List.setIfInBounds_toArray, List.set_cons_zero, List.set_cons_succ])
            refine wpAnyH_take (i := 33) (oi := { dst := some 50, op := .fieldAddr 33 (.tmp 49) 3, type := 0, pos := "ref.go:280", after := #[{ on := 32, ground := .data }, { on := 24, ground := .guard }], guard := some (24, false) }) (v := undef) rfl (by kernel_rfl) (by kernel_rfl) (by kernel_rfl) (fun _ _ _ h => h) (Or.inr ⟨by kernel_rfl, rfl⟩) st ?_
            (try simp only [Act.put, List.setIfInBounds_toArray, List.set_cons_zero, List.set_cons_succ])
            refine wpAnyH_take (i := 34) (oi := { dst := some 51, op := .load 4 (.tmp 50), type := 4, pos := "ref.go:280", after := #[{ on := 33, ground := .data }, { on := 24, ground := .guard }], guard := some (24, false) }) (v := undef) rfl (by kernel_rfl) (by kernel_rfl) (by kernel_rfl) (fun _ _ _ h => h) (Or.inr ⟨by kernel_rfl, rfl⟩) st ?_
            (try simp only [Act.put, List.setIfInBounds_toArray, List.set_cons_zero, List.set_cons_succ])
            refine wpAnyH_take (i := 35) (oi := { dst := some 52, op := .binOp .neq 4 (.tmp 46) (.tmp 51) 4, type := 4, pos := "ref.go:280", after := #[{ on := 29, ground := .data }, { on := 34, ground := .data }, { on := 24, ground := .guard }], guard := some (24, false) }) (v := undef) rfl (by kernel_rfl) (by kernel_rfl) (by kernel_rfl) (fun _ _ _ h => h) (Or.inr ⟨by kernel_rfl, rfl⟩) st ?_
            (try simp only [Act.put, List.setIfInBounds_toArray, List.set_cons_zero, List.set_cons_succ])
            refine wpAnyH_take (i := 36) (oi := { dst := some 53, op := .pick (.tmp 41) (.const (.bool true)) (.tmp 52), type := 4, pos := "ref.go:280", after := #[{ on := 24, ground := .data }, { on := 35, ground := .data }], guard := none }) (v := ?_) rfl (by kernel_rfl) (by kernel_rfl) (by kernel_rfl) (fun _ _ _ h => h) (Or.inl ⟨by kernel_rfl, ?_⟩) st ?_
            rotate_left
            · (intro X hX; (try dsimp only at hX); go_simp; try (with_reducible rfl))
            (try simp only [Act.put, List.setIfInBounds_toArray, List.set_cons_zero, List.set_cons_succ])
            refine wpAnyH_take (i := 37) (oi := { dst := some 54, op := .move (.tmp 53), type := 4, pos := "ref.go:280", after := #[{ on := 36, ground := .data }, { on := 24, ground := .chain }], guard := none }) (v := ?_) rfl (by kernel_rfl) (by kernel_rfl) (by kernel_rfl) (fun _ _ _ h => h) (Or.inl ⟨by kernel_rfl, ?_⟩) st ?_
            rotate_left
            · (intro X hX; (try dsimp only at hX); go_simp; try (with_reducible rfl))
            (try simp only [Act.put, List.setIfInBounds_toArray, List.set_cons_zero, List.set_cons_succ])
            refine wpAnyH_take (i := 38) (oi := { dst := some 55, op := .move (.tmp 0), type := 24, pos := "ref.go:280", after := #[{ on := 37, ground := .guard }], guard := some (37, false) }) (v := undef) rfl (by kernel_rfl) (by kernel_rfl) (by kernel_rfl) (fun _ _ _ h => h) (Or.inr ⟨by kernel_rfl, rfl⟩) st ?_
            (try simp only [Act.put, List.setIfInBounds_toArray, List.set_cons_zero, List.set_cons_succ])
            refine wpAnyH_take (i := 39) (oi := { dst := some 56, op := .move (.tmp 5), type := 3, pos := "ref.go:280", after := #[{ on := 37, ground := .guard }], guard := some (37, false) }) (v := undef) rfl (by kernel_rfl) (by kernel_rfl) (by kernel_rfl) (fun _ _ _ h => h) (Or.inr ⟨by kernel_rfl, rfl⟩) st ?_
            (try simp only [Act.put, List.setIfInBounds_toArray, List.set_cons_zero, List.set_cons_succ])
            refine wpAnyH_take (i := 40) (oi := { dst := some 57, op := .indexAddr 24 (.tmp 55) (.tmp 56), type := 0, pos := "ref.go:280", after := #[{ on := 38, ground := .data }, { on := 39, ground := .data }, { on := 37, ground := .guard }], guard := some (37, false) }) (v := undef) rfl (by kernel_rfl) (by kernel_rfl) (by kernel_rfl) (fun _ _ _ h => h) (Or.inr ⟨by kernel_rfl, rfl⟩) st ?_
            (try simp only [Act.put, List.setIfInBounds_toArray, List.set_cons_zero, List.set_cons_succ])
            refine wpAnyH_take (i := 41) (oi := { dst := some 58, op := .fieldAddr 33 (.tmp 57) 2, type := 0, pos := "ref.go:280", after := #[{ on := 40, ground := .data }, { on := 37, ground := .guard }], guard := some (37, false) }) (v := undef) rfl (by kernel_rfl) (by kernel_rfl) (by kernel_rfl) (fun _ _ _ h => h) (Or.inr ⟨by kernel_rfl, rfl⟩) st ?_
            (try simp only [Act.put, List.setIfInBounds_toArray, List.set_cons_zero, List.set_cons_succ])
            refine wpAnyH_take (i := 42) (oi := { dst := some 59, op := .load 24 (.tmp 58), type := 24, pos := "ref.go:280", after := #[{ on := 41, ground := .data }, { on := 37, ground := .guard }], guard := some (37, false) }) (v := undef) rfl (by kernel_rfl) (by kernel_rfl) (by kernel_rfl) (fun _ _ _ h => h) (Or.inr ⟨by kernel_rfl, rfl⟩) st ?_
            (try simp only [Act.put, List.setIfInBounds_toArray, List.set_cons_zero, List.set_cons_succ])
            refine wpAnyH_take (i := 43) (oi := { dst := some 60, op := .move (.tmp 1), type := 24, pos := "ref.go:280", after := #[{ on := 37, ground := .guard }], guard := some (37, false) }) (v := undef) rfl (by kernel_rfl) (by kernel_rfl) (by kernel_rfl) (fun _ _ _ h => h) (Or.inr ⟨by kernel_rfl, rfl⟩) st ?_
            (try simp only [Act.put, List.setIfInBounds_toArray, List.set_cons_zero, List.set_cons_succ])
            refine wpAnyH_take (i := 44) (oi := { dst := some 61, op := .move (.tmp 5), type := 3, pos := "ref.go:280", after := #[{ on := 37, ground := .guard }], guard := some (37, false) }) (v := undef) rfl (by kernel_rfl) (by kernel_rfl) (by kernel_rfl) (fun _ _ _ h => h) (Or.inr ⟨by kernel_rfl, rfl⟩) st ?_
            (try simp only [Act.put, List.setIfInBounds_toArray, List.set_cons_zero, List.set_cons_succ])
            refine wpAnyH_take (i := 45) (oi := { dst := some 62, op := .indexAddr 24 (.tmp 60) (.tmp 61), type := 0, pos := "ref.go:280", after := #[{ on := 43, ground := .data }, { on := 44, ground := .data }, { on := 37, ground := .guard }], guard := some (37, false) }) (v := undef) rfl (by kernel_rfl) (by kernel_rfl) (by kernel_rfl) (fun _ _ _ h => h) (Or.inr ⟨by kernel_rfl, rfl⟩) st ?_
            (try simp only [Act.put, List.setIfInBounds_toArray, List.set_cons_zero, List.set_cons_succ])
            refine wpAnyH_take (i := 46) (oi := { dst := some 63, op := .fieldAddr 33 (.tmp 62) 2, type := 0, pos := "ref.go:280", after := #[{ on := 45, ground := .data }, { on := 37, ground := .guard }], guard := some (37, false) }) (v := undef) rfl (by kernel_rfl) (by kernel_rfl) (by kernel_rfl) (fun _ _ _ h => h) (Or.inr ⟨by kernel_rfl, rfl⟩) st ?_
            (try simp only [Act.put, List.setIfInBounds_toArray, List.set_cons_zero, List.set_cons_succ])
            refine wpAnyH_take (i := 47) (oi := { dst := some 64, op := .load 24 (.tmp 63), type := 24, pos := "ref.go:280", after := #[{ on := 46, ground := .data }, { on := 37, ground := .guard }], guard := some (37, false) }) (v := undef) rfl (by kernel_rfl) (by kernel_rfl) (by kernel_rfl) (fun _ _ _ h => h) (Or.inr ⟨by kernel_rfl, rfl⟩) st ?_
            (try simp only [Act.put, List.setIfInBounds_toArray, List.set_cons_zero, List.set_cons_succ])
            refine wpAnyH_take (i := 48) (oi := { dst := some 65, op := .call { callee := .value (.func 21), args := #[.tmp 59, .tmp 64], argTypes := #[24, 24] }, type := 4, pos := "ref.go:280", after := #[{ on := 42, ground := .data }, { on := 47, ground := .data }, { on := 37, ground := .chain }, { on := 37, ground := .guard }], guard := some (37, false) }) (v := undef) rfl (by kernel_rfl) (by kernel_rfl) (by kernel_rfl) (fun _ _ _ h => h) (Or.inr ⟨by kernel_rfl, rfl⟩) st ?_
            (try simp only [Act.put, List.setIfInBounds_toArray, List.set_cons_zero, List.set_cons_succ])
            refine wpAnyH_take (i := 49) (oi := { dst := some 66, op := .unOp .not 4 (.tmp 65), type := 4, pos := "ref.go:280", after := #[{ on := 48, ground := .data }, { on := 37, ground := .guard }], guard := some (37, false) }) (v := undef) rfl (by kernel_rfl) (by kernel_rfl) (by kernel_rfl) (fun _ _ _ h => h) (Or.inr ⟨by kernel_rfl, rfl⟩) st ?_
            (try simp only [Act.put, List.setIfInBounds_toArray, List.set_cons_zero, List.set_cons_succ])
            refine wpAnyH_take (i := 50) (oi := { dst := some 67, op := .pick (.tmp 54) (.const (.bool true)) (.tmp 66), type := 4, pos := "ref.go:280", after := #[{ on := 37, ground := .data }, { on := 49, ground := .data }], guard := none }) (v := ?_) rfl (by kernel_rfl) (by kernel_rfl) (by kernel_rfl) (fun _ _ _ h => h) (Or.inl ⟨by kernel_rfl, ?_⟩) st ?_
            rotate_left
            · (intro X hX; (try dsimp only at hX); go_simp; try (with_reducible rfl))
            (try simp only [Act.put, List.setIfInBounds_toArray, List.set_cons_zero, List.set_cons_succ])
            refine wpAnyH_done (by kernel_rfl) ?_ _
            go_wp2_with fail
            go_ret
            exact ⟨ret_bool HF.out.symm, st.2.2.2.2.2.2.2.2.2.out⟩
        · have HF := Lib.hid (HNO.out (fun e => x1 (by rw [← hck.out, ← hdk.out, e])))
          have hne : (ck != dk) = true := by rw [bne_iff_ne]; exact x1
          refine wpAnyH_take (i := 10) (oi := { dst := some 27, op := .binOp .neq 3 (.tmp 21) (.tmp 26) 3, type := 4, pos := "ref.go:280", after := #[{ on := 4, ground := .data }, { on := 9, ground := .data }], guard := none }) (v := .bool true) rfl (by kernel_rfl) (by kernel_rfl) (by kernel_rfl) (fun _ _ _ h => h) (Or.inl ⟨by kernel_rfl, ?_⟩) st ?_
          · (intro X hX; (try dsimp only at hX); go_simp; try simp [hne])
          (try simp only [Act.put, List.setIfInBounds_toArray, List.set_cons_zero, List.set_cons_succ])
          refine wpAnyH_take (i := 11) (oi := { dst := some 28, op := .move (.tmp 27), type := 4, pos := "ref.go:280", after := #[{ on := 10, ground := .data }], guard := none }) (v := ?_) rfl (by kernel_rfl) (by kernel_rfl) (by kernel_rfl) (fun _ _ _ h => h) (Or.inl ⟨by kernel_rfl, ?_⟩) st ?_
          rotate_left
          · (intro X hX; (try dsimp only at hX); go_simp; try (with_reducible rfl))
          (try simp only [Act.put, List.setIfInBounds_toArray, List.set_cons_zero, List.set_cons_succ])
          refine wpAnyH_take (i := 12) (oi := { dst := some 29, op := .move (.tmp 0), type := 24, pos := "ref.go:280", after := #[{ on := 11, ground := .guard }], guard := some (11, false) }) (v := undef) rfl (by kernel_rfl) (by kernel_rfl) (by kernel_rfl) (fun _ _ _ h => h) (Or.inr ⟨by kernel_rfl, rfl⟩) st ?_
          (try simp only [Act.put, List.setIfInBounds_toArray, List.set_cons_zero, List.set_cons_succ])
          refine wpAnyH_take (i := 13) (oi := { dst := some 30, op := .move (.tmp 5), type := 3, pos := "ref.go:280", after := #[{ on := 11, ground := .guard }], guard := some (11, false) }) (v := undef) rfl (by kernel_rfl) (by kernel_rfl) (by kernel_rfl) (fun _ _ _ h => h) (Or.inr ⟨by kernel_rfl, rfl⟩) st ?_
          (try simp only [Act.put, List.setIfInBounds_toArray, List.set_cons_zero, List.set_cons_succ])
          refine wpAnyH_take (i := 14) (oi := { dst := some 31, op := .indexAddr 24 (.tmp 29) (.tmp 30), type := 0, pos := "ref.go:280", after := #[{ on := 12, ground := .data }, { on := 13, ground := .data }, { on := 11, ground := .guard }], guard := some (11, false) }) (v := undef) rfl (by kernel_rfl) (by kernel_rfl) (by kernel_rfl) (fun _ _ _ h => h) (Or.inr ⟨by kernel_rfl, rfl⟩) st ?_
          (try simp only [Act.put, List.setIfInBounds_toArray, List.set_cons_zero, List.set_cons_succ])
          refine wpAnyH_take (i := 15) (oi := { dst := some 32, op := .fieldAddr 33 (.tmp 31) 1, type := 0, pos := "ref.go:280", after := #[{ on := 14, ground := .data }, { on := 11, ground := .guard }], guard := some (11, false) }) (v := undef) rfl (by kernel_rfl) (by kernel_rfl) (by kernel_rfl) (fun _ _ _ h => h) (Or.inr ⟨by kernel_rfl, rfl⟩) st ?_
          (try simp only [Act.put, List.setIfInBounds_toArray, List.set_cons_zero, List.set_cons_succ])
          refine wpAnyH_take (i := 16) (oi := { dst := some 33, op := .load 9 (.tmp 32), type := 9, pos := "ref.go:280", after := #[{ on := 15, ground := .data }, { on := 11, ground := .guard }], guard := some (11, false) }) (v := undef) rfl (by kernel_rfl) (by kernel_rfl) (by kernel_rfl) (fun _ _ _ h => h) (Or.inr ⟨by kernel_rfl, rfl⟩) st ?_
          (try simp only [Act.put, List.setIfInBounds_toArray, List.set_cons_zero, List.set_cons_succ])
          refine wpAnyH_take (i := 17) (oi := { dst := some 34, op := .move (.tmp 1), type := 24, pos := "ref.go:280", after := #[{ on := 11, ground := .guard }], guard := some (11, false) }) (v := undef) rfl (by kernel_rfl) (by kernel_rfl) (by kernel_rfl) (fun _ _ _ h => h) (Or.inr ⟨by kernel_rfl, rfl⟩) st ?_
          (try simp only [Act.put, List.setIfInBounds_toArray, List.set_cons_zero, List.set_cons_succ])
          refine wpAnyH_take (i := 18) (oi := { dst := some 35, op := .move (.tmp 5), type := 3, pos := "ref.go:280", after := #[{ on := 11, ground := .guard }], guard := some (11, false) }) (v := undef) rfl (by kernel_rfl) (by kernel_rfl) (by kernel_rfl) (fun _ _ _ h => h) (Or.inr ⟨by kernel_rfl, rfl⟩) st ?_
          (try simp only [Act.put, List.setIfInBounds_toArray, List.set_cons_zero, List.set_cons_succ])
          refine wpAnyH_take (i := 19) (oi := { dst := some 36, op := .indexAddr 24 (.tmp 34) (.tmp 35), type := 0, pos := "ref.go:280", after := #[{ on := 17, ground := .data }, { on := 18, ground := .data }, { on := 11, ground := .guard }], guard := some (11, false) }) (v := undef) rfl (by kernel_rfl) (by kernel_rfl) (by kernel_rfl) (fun _ _ _ h => h) (Or.inr ⟨by kernel_rfl, rfl⟩) st ?_
          (try simp only [Act.put, List.setIfInBounds_toArray, List.set_cons_zero, List.set_cons_succ])
          refine wpAnyH_take (i := 20) (oi := { dst := some 37, op := .fieldAddr 33 (.tmp 36) 1, type := 0, pos := "ref.go:280", after := #[{ on := 19, ground := .data }, { on := 11, ground := .guard }], guard := some (11, false) }) (v := undef) rfl (by kernel_rfl) (by kernel_rfl) (by kernel_rfl) (fun _ _ _ h => h) (Or.inr ⟨by kernel_rfl, rfl⟩) st ?_
          (try simp only [Act.put, List.setIfInBounds_toArray, List.set_cons_zero, List.set_cons_succ])
          refine wpAnyH_take (i := 21) (oi := { dst := some 38, op := .load 9 (.tmp 37), type := 9, pos := "ref.go:280", after := #[{ on := 20, ground := .data }, { on := 11, ground := .guard }], guard := some (11, false) }) (v := undef) rfl (by kernel_rfl) (by kernel_rfl) (by kernel_rfl) (fun _ _ _ h => h) (Or.inr ⟨by kernel_rfl, rfl⟩) st ?_
          (try simp only [Act.put, List.setIfInBounds_toArray, List.set_cons_zero, List.set_cons_succ])
          refine wpAnyH_take (i := 22) (oi := { dst := some 39, op := .binOp .neq 9 (.tmp 33) (.tmp 38) 9, type := 4, pos := "ref.go:280", after := #[{ on := 16, ground := .data }, { on := 21, ground := .data }, { on := 11, ground := .guard }], guard := some (11, false) }) (v := undef) rfl (by kernel_rfl) (by kernel_rfl) (by kernel_rfl) (fun _ _ _ h => h) (Or.inr ⟨by kernel_rfl, rfl⟩) st ?_
          (try simp only [Act.put, List.setIfInBounds_toArray, List.set_cons_zero, List.set_cons_succ])
          refine wpAnyH_take (i := 23) (oi := { dst := some 40, op := .pick (.tmp 28) (.const (.bool true)) (.tmp 39), type := 4, pos := "ref.go:280", after := #[{ on := 11, ground := .data }, { on := 22, ground := .data }], guard := none }) (v := ?_) rfl (by kernel_rfl) (by kernel_rfl) (by kernel_rfl) (fun _ _ _ h => h) (Or.inl ⟨by kernel_rfl, ?_⟩) st ?_
          rotate_left
          · (intro X hX; (try dsimp only at hX); go_simp; try (with_reducible rfl))
          (try simp only [Act.put, List.setIfInBounds_toArray, List.set_cons_zero, List.set_cons_succ])
          refine wpAnyH_take (i := 24) (oi := { dst := some 41, op := .move (.tmp 40), type := 4, pos := "ref.go:280", after := #[{ on := 23, ground := .data }, { on := 11, ground := .chain }], guard := none }) (v := ?_) rfl (by kernel_rfl) (by kernel_rfl) (by kernel_rfl) (fun _ _ _ h => h) (Or.inl ⟨by kernel_rfl, ?_⟩) st ?_
          rotate_left
          · (intro X hX; (try dsimp only at hX); go_simp; try (with_reducible rfl))
          (try simp only [Act.put, List.setIfInBounds_toArray, List.set_cons_zero, List.set_cons_succ])
          refine wpAnyH_take (i := 25) (oi := { dst := some 42, op := .move (.tmp 0), type := 24, pos := "ref.go:280", after := #[{ on := 24, ground := .guard }], guard := some (24, false) }) (v := undef) rfl (by kernel_rfl) (by kernel_rfl) (by kernel_rfl) (fun _ _ _ h => h) (Or.inr ⟨by kernel_rfl, rfl⟩) st ?_
          (try simp only [Act.put, List.setIfInBounds_toArray, List.set_cons_zero, List.set_cons_succ])
          refine wpAnyH_take (i := 26) (oi := { dst := some 43, op := .move (.tmp 5), type := 3, pos := "ref.go:280", after := #[{ on := 24, ground := .guard }], guard := some (24, false) }) (v := undef) rfl (by kernel_rfl) (by kernel_rfl) (by kernel_rfl) (fun _ _ _ h => h) (Or.inr ⟨by kernel_rfl, rfl⟩) st ?_
          (try simp only [Act.put, List.setIfInBounds_toArray, List.set_cons_zero, List.set_cons_succ])
          refine wpAnyH_take (i := 27) (oi := { dst := some 44, op := .indexAddr 24 (.tmp 42) (.tmp 43), type := 0, pos := "ref.go:280", after := #[{ on := 25, ground := .data }, { on := 26, ground := .data }, { on := 24, ground := .guard }], guard := some (24, false) }) (v := undef) rfl (by kernel_rfl) (by kernel_rfl) (by kernel_rfl) (fun _ _ _ h => h) (Or.inr ⟨by kernel_rfl, rfl⟩) st ?_
          (try simp only [Act.put, List.setIfInBounds_toArray, List.set_cons_zero, List.set_cons_succ])
          refine wpAnyH_take (i := 28) (oi := { dst := some 45, op := .fieldAddr 33 (.tmp 44) 3, type := 0, pos := "ref.go:280", after := #[{ on := 27, ground := .data }, { on := 24, ground := .guard }], guard := some (24, false) }) (v := undef) rfl (by kernel_rfl) (by kernel_rfl) (by kernel_rfl) (fun _ _ _ h => h) (Or.inr ⟨by kernel_rfl, rfl⟩) st ?_
          (try simp only [Act.put, List.setIfInBounds_toArray, List.set_cons_zero, List.set_cons_succ])
          refine wpAnyH_take (i := 29) (oi := { dst := some 46, op := .load 4 (.tmp 45), type := 4, pos := "ref.go:280", after := #[{ on := 28, ground := .data }, { on := 24, ground := .guard }], guard := some (24, false) }) (v := undef) rfl (by kernel_rfl) (by kernel_rfl) (by kernel_rfl) (fun _ _ _ h => h) (Or.inr ⟨by kernel_rfl, rfl⟩) st ?_
          (try simp only [Act.put, List.setIfInBounds_toArray, List.set_cons_zero, List.set_cons_succ])
          refine wpAnyH_take (i := 30) (oi := { dst := some 47, op := .move (.tmp 1), type := 24, pos := "ref.go:280", after := #[{ on := 24, ground := .guard }], guard := some (24, false) }) (v := undef) rfl (by kernel_rfl) (by kernel_rfl) (by kernel_rfl) (fun _ _ _ h => h) (Or.inr ⟨by kernel_rfl, rfl⟩) st ?_
          (try simp only [Act.put, List.setIfInBounds_toArray, List.set_cons_zero, List.set_cons_succ])
          refine wpAnyH_take (i := 31) (oi := { dst := some 48, op := .move (.tmp 5), type := 3, pos := "ref.go:280", after := #[{ on := 24, ground := .guard }], guard := some (24, false) }) (v := undef) rfl (by kernel_rfl) (by kernel_rfl) (by kernel_rfl) (fun _ _ _ h => h) (Or.inr ⟨by kernel_rfl, rfl⟩) st ?_
          (try simp only [Act.put, List.setIfInBounds_toArray, List.set_cons_zero, List.set_cons_succ])
          refine wpAnyH_take (i := 32) (oi := { dst := some 49, op := .indexAddr 24 (.tmp 47) (.tmp 48), type := 0, pos := "ref.go:280", after := #[{ on := 30, ground := .data }, { on := 31, ground := .data }, { on := 24, ground := .guard }], guard := some (24, false) }) (v := undef) rfl (by kernel_rfl) (by kernel_rfl) (by kernel_rfl) (fun _ _ _ h => h) (Or.inr ⟨by kernel_rfl, rfl⟩) st ?_
          (try simp only [Act.put, List.setIfInBounds_toArray, List.set_cons_zero, List.set_cons_succ])
          refine wpAnyH_take (i := 33) (oi := { dst := some 50, op := .fieldAddr 33 (.tmp 49) 3, type := 0, pos := "ref.go:280", after := #[{ on := 32, ground := .data }, { on := 24, ground := .guard }], guard := some (24, false) }) (v := undef) rfl (by kernel_rfl) (by kernel_rfl) (by kernel_rfl) (fun _ _ _ h => h) (Or.inr ⟨by kernel_rfl, rfl⟩) st ?_
          (try simp only [Act.put, List.setIfInBounds_toArray, List.set_cons_zero, List.set_cons_succ])
          refine wpAnyH_take (i := 34) (oi := { dst := some 51, op := .load 4 (.tmp 50), type := 4, pos := "ref.go:280", after := #[{ on := 33, ground := .data }, { on := 24, ground := .guard }], guard := some (24, false) }) (v := undef) rfl (by kernel_rfl) (by kernel_rfl) (by kernel_rfl) (fun _ _ _ h => h) (Or.inr ⟨by kernel_rfl, rfl⟩) st ?_
          (try simp only [Act.put, List.setIfInBounds_toArray, List.set_cons_zero, List.set_cons_succ])
          refine wpAnyH_take (i := 35) (oi := { dst := some 52, op := .binOp .neq 4 (.tmp 46) (.tmp 51) 4, type := 4, pos := "ref.go:280", after := #[{ on := 29, ground := .data }, { on := 34, ground := .data }, { on := 24, ground := .guard }], guard := some (24, false) }) (v := undef) rfl (by kernel_rfl) (by kernel_rfl) (by kernel_rfl) (fun _ _ _ h => h) (Or.inr ⟨by kernel_rfl, rfl⟩) st ?_
          (try simp only [Act.put, List.setIfInBounds_toArray, List.set_cons_zero, List.set_cons_succ])
          refine wpAnyH_take (i := 36) (oi := { dst := some 53, op := .pick (.tmp 41) (.const (.bool true)) (.tmp 52), type := 4, pos := "ref.go:280", after := #[{ on := 24, ground := .data }, { on := 35, ground := .data }], guard := none }) (v := ?_) rfl (by kernel_rfl) (by kernel_rfl) (by kernel_rfl) (fun _ _ _ h => h) (Or.inl ⟨by kernel_rfl, ?_⟩) st ?_
          rotate_left
          · (intro X hX; (try dsimp only at hX); go_simp; try (with_reducible rfl))
          (try simp only [Act.put, List.setIfInBounds_toArray, List.set_cons_zero, List.set_cons_succ])
          refine wpAnyH_take (i := 37) (oi := { dst := some 54, op := .move (.tmp 53), type := 4, pos := "ref.go:280", after := #[{ on := 36, ground := .data }, { on := 24, ground := .chain }], guard := none }) (v := ?_) rfl (by kernel_rfl) (by kernel_rfl) (by kernel_rfl) (fun _ _ _ h => h) (Or.inl ⟨by kernel_rfl, ?_⟩) st ?_
          rotate_left
          · (intro X hX; (try dsimp only at hX); go_simp; try (with_reducible rfl))
          (try simp only [Act.put, List.setIfInBounds_toArray, List.set_cons_zero, List.set_cons_succ])
          refine wpAnyH_take (i := 38) (oi := { dst := some 55, op := .move (.tmp 0), type := 24, pos := "ref.go:280", after := #[{ on := 37, ground := .guard }], guard := some (37, false) }) (v := undef) rfl (by kernel_rfl) (by kernel_rfl) (by kernel_rfl) (fun _ _ _ h => h) (Or.inr ⟨by kernel_rfl, rfl⟩) st ?_
          (try simp only [Act.put, List.setIfInBounds_toArray, List.set_cons_zero, List.set_cons_succ])
          refine wpAnyH_take (i := 39) (oi := { dst := some 56, op := .move (.tmp 5), type := 3, pos := "ref.go:280", after := #[{ on := 37, ground := .guard }], guard := some (37, false) }) (v := undef) rfl (by kernel_rfl) (by kernel_rfl) (by kernel_rfl) (fun _ _ _ h => h) (Or.inr ⟨by kernel_rfl, rfl⟩) st ?_
          (try simp only [Act.put, List.setIfInBounds_toArray, List.set_cons_zero, List.set_cons_succ])
          refine wpAnyH_take (i := 40) (oi := { dst := some 57, op := .indexAddr 24 (.tmp 55) (.tmp 56), type := 0, pos := "ref.go:280", after := #[{ on := 38, ground := .data }, { on := 39, ground := .data }, { on := 37, ground := .guard }], guard := some (37, false) }) (v := undef) rfl (by kernel_rfl) (by kernel_rfl) (by kernel_rfl) (fun _ _ _ h => h) (Or.inr ⟨by kernel_rfl, rfl⟩) st ?_
          (try simp only [Act.put, List.setIfInBounds_toArray, List.set_cons_zero, List.set_cons_succ])
          refine wpAnyH_take (i := 41) (oi := { dst := some 58, op := .fieldAddr 33 (.tmp 57) 2, type := 0, pos := "ref.go:280", after := #[{ on := 40, ground := .data }, { on := 37, ground := .guard }], guard := some (37, false) }) (v := undef) rfl (by kernel_rfl) (by kernel_rfl) (by kernel_rfl) (fun _ _ _ h => h) (Or.inr ⟨by kernel_rfl, rfl⟩) st ?_
          (try simp only [Act.put, List.setIfInBounds_toArray, List.set_cons_zero, List.set_cons_succ])
          refine wpAnyH_take (i := 42) (oi := { dst := some 59, op := .load 24 (.tmp 58), type := 24, pos := "ref.go:280", after := #[{ on := 41, ground := .data }, { on := 37, ground := .guard }], guard := some (37, false) }) (v := undef) rfl (by kernel_rfl) (by kernel_rfl) (by kernel_rfl) (fun _ _ _ h => h) (Or.inr ⟨by kernel_rfl, rfl⟩) st ?_
          (try simp only [Act.put, List.setIfInBounds_toArray, List.set_cons_zero, List.set_cons_succ])
          refine wpAnyH_take (i := 43) (oi := { dst := some 60, op := .move (.tmp 1), type := 24, pos := "ref.go:280", after := #[{ on := 37, ground := .guard }], guard := some (37, false) }) (v := undef) rfl (by kernel_rfl) (by kernel_rfl) (by kernel_rfl) (fun _ _ _ h => h) (Or.inr ⟨by kernel_rfl, rfl⟩) st ?_
          (try simp only [Act.put, List.setIfInBounds_toArray, List.set_cons_zero, List.set_cons_succ])
          refine wpAnyH_take (i := 44) (oi := { dst := some 61, op := .move (.tmp 5), type := 3, pos := "ref.go:280", after := #[{ on := 37, ground := .guard }], guard := some (37, false) }) (v := undef) rfl (by kernel_rfl) (by kernel_rfl) (by kernel_rfl) (fun _ _ _ h => h) (Or.inr ⟨by kernel_rfl, rfl⟩) st ?_
          (try simp only [Act.put, List.setIfInBounds_toArray, List.set_cons_zero, List.set_cons_succ])
          refine wpAnyH_take (i := 45) (oi := { dst := some 62, op := .indexAddr 24 (.tmp 60) (.tmp 61), type := 0, pos := "ref.go:280", after := #[{ on := 43, ground := .data }, { on := 44, ground := .data }, { on := 37, ground := .guard }], guard := some (37, false) }) (v := undef) rfl (by kernel_rfl) (by kernel_rfl) (by kernel_rfl) (fun _ _ _ h => h) (Or.inr ⟨by kernel_rfl, rfl⟩) st ?_
          (try simp only [Act.put, List.setIfInBounds_toArray, List.set_cons_zero, List.set_cons_succ])
          refine wpAnyH_take (i := 46) (oi := { dst := some 63, op := .fieldAddr 33 (.tmp 62) 2, type := 0, pos := "ref.go:280", after := #[{ on := 45, ground := .data }, { on := 37, ground := .guard }], guard := some (37, false) }) (v := undef) rfl (by kernel_rfl) (by kernel_rfl) (by kernel_rfl) (fun _ _ _ h => h) (Or.inr ⟨by kernel_rfl, rfl⟩) st ?_
          (try simp only [Act.put, List.setIfInBounds_toArray, List.set_cons_zero, List.set_cons_succ])
          refine wpAnyH_take (i := 47) (oi := { dst := some 64, op := .load 24 (.tmp 63), type := 24, pos := "ref.go:280", after := #[{ on := 46, ground := .data }, { on := 37, ground := .guard }], guard := some (37, false) }) (v := undef) rfl (by kernel_rfl) (by kernel_rfl) (by kernel_rfl) (fun _ _ _ h => h) (Or.inr ⟨by kernel_rfl, rfl⟩) st ?_
          (try simp only [Act.put, List.setIfInBounds_toArray, List.set_cons_zero, List.set_cons_succ])
          refine wpAnyH_take (i := 48) (oi := { dst := some 65, op := .call { callee := .value (.func 21), args := #[.tmp 59, .tmp 64], argTypes := #[24, 24] }, type := 4, pos := "ref.go:280", after := #[{ on := 42, ground := .data }, { on := 47, ground := .data }, { on := 37, ground := .chain }, { on := 37, ground := .guard }], guard := some (37, false) }) (v := undef) rfl (by kernel_rfl) (by kernel_rfl) (by kernel_rfl) (fun _ _ _ h => h) (Or.inr ⟨by kernel_rfl, rfl⟩) st ?_
          (try simp only [Act.put, List.setIfInBounds_toArray, List.set_cons_zero, List.set_cons_succ])
          refine wpAnyH_take (i := 49) (oi := { dst := some 66, op := .unOp .not 4 (.tmp 65), type := 4, pos := "ref.go:280", after := #[{ on := 48, ground := .data }, { on := 37, ground := .guard }], guard := some (37, false) }) (v := undef) rfl (by kernel_rfl) (by kernel_rfl) (by kernel_rfl) (fun _ _ _ h => h) (Or.inr ⟨by kernel_rfl, rfl⟩) st ?_
          (try simp only [Act.put, List.setIfInBounds_toArray, List.set_cons_zero, List.set_cons_succ])
          refine wpAnyH_take (i := 50) (oi := { dst := some 67, op := .pick (.tmp 54) (.const (.bool true)) (.tmp 66), type := 4, pos := "ref.go:280", after := #[{ on := 37, ground := .data }, { on := 49, ground := .data }], guard := none }) (v := ?_) rfl (by kernel_rfl) (by kernel_rfl) (by kernel_rfl) (fun _ _ _ h => h) (Or.inl ⟨by kernel_rfl, ?_⟩) st ?_
          rotate_left
          · (intro X hX; (try dsimp only at hX); go_simp; try (with_reducible rfl))
          (try simp only [Act.put, List.setIfInBounds_toArray, List.set_cons_zero, List.set_cons_succ])
          refine wpAnyH_done (by kernel_rfl) ?_ _
          go_wp2_with fail
          go_ret
          exact ⟨ret_bool HF.out.symm, st.2.2.2.2.2.2.2.2.2.out⟩
      · have hkz : ¬ (k : Int) < (l.length : Int) := by omega
        have HY : Hid (eqL l m = true) := Lib.hid (by rw [lists_of_all HLEN.out (fun j hj => HALL.out j (by omega))]; exact eqL_refl2 m)
        go_wp2_with fail
        go_ret
        exact ⟨ret_bool HY.out.symm, HB.out⟩
  · have hq : ((l.length : Int) != (m.length : Int)) = true := by rw [bne_iff_ne]; omega
    have HF : Hid (eqL l m = false) := Lib.hid (eqL_not (fun e => hlen (by rw [e])))
    clear hlen
    go_enter Tryd.func21, Tryd.ntmps21
    go_wp2_with fail
    go_ret
    exact ⟨ret_bool HF.out.symm, Below.refl _ _⟩
theorem samg_any (N : Nat) : ∀ (l m : List Wd), SizeOf.sizeOf l < N → ∀ (w : World) (D1 D2 : Nat → Prop) (a1 a2 : Option Addr) (n1 c1 n2 c2 : Nat), Lies w D1 a1 n1 c1 l → Lies w D2 a2 n2 c2 m → ∀ W, Below w.heap.size w W →
    Calls Tryd.prog 21 #[.slice a1 n1 c1, .slice a2 n2 c2] W fun e w' => e = .returned (.bool (eqL l m)) ∧ Below W.heap.size W w' := by
  induction N with
  | zero => intro l m h; omega
  | succ N ih =>
    intro l m hN w D1 D2 a1 a2 n1 c1 n2 c2 h1 h2 W hW
    exact samg_step l m a1 a2 n1 c1 n2 c2 D1 D2 w h1 h2 (fun i hi hi2 va vb vn vc wn wc' k1 k2 W' hW' => ih _ _ (by have := kids_lt l i hi; omega) w D1 D2 va vb vn vc wn wc' k1 k2 W' hW') W hW
end Go.Proofs.YtliiapdakojomabDoor

/- lex: words in memory of their own, with one more behind each list. -/
namespace Go.Proofs.YtliiapdakojomabDoor
open Go.RowKit

/-- A list in a row of its own, with one more behind. -/
inductive Twn (w : World) (D : Nat → Prop) : Nat → Nat → List Wd → Prop
  | row (g cap : Nat) (l : List Wd) (vg vc : Nat → Nat) (hD : D g) (hg : g < w.heap.size) (hn : l.length + 1 ≤ 1048577) (hcap : l.length + 1 ≤ cap)
      (hc : ∀ i, i < l.length → w.cell? ⟨g, i * 4, none⟩ = some (.int .i64 (l.getD i wd0).kind) ∧ w.cell? ⟨g, i * 4 + 1, none⟩ = some (.string (l.getD i wd0).text) ∧ w.cell? ⟨g, i * 4 + 2, none⟩ = some (.slice (some ⟨vg i, 0, none⟩) (l.getD i wd0).kids.length (vc i)) ∧ w.cell? ⟨g, i * 4 + 3, none⟩ = some (.bool (l.getD i wd0).glued))
      (hr : w.cell? ⟨g, l.length * 4, none⟩ = some (.int .i64 77) ∧ w.cell? ⟨g, l.length * 4 + 1, none⟩ = some (.string ⟨#[114, 111, 111, 109]⟩) ∧ w.cell? ⟨g, l.length * 4 + 2, none⟩ = some (.slice none 0 0) ∧ w.cell? ⟨g, l.length * 4 + 3, none⟩ = some (.bool false))
      (hk : ∀ i, i < l.length → Twn w D (vg i) (vc i) (l.getD i wd0).kids) : Twn w D g cap l
theorem Twn.mono {w w' : World} {D D' : Nat → Prop} (hw : ∀ g, D g → g < w.heap.size → g < w'.heap.size ∧ w'.heap[g]? = w.heap[g]?) (hD : ∀ g, D g → D' g) {g cap : Nat} {l : List Wd} (h : Twn w D g cap l) : Twn w' D' g cap l := by
  induction h with
  | row g cap l vg vc hd hg hn hcap hc hr _ ih =>
    obtain ⟨h1, h2⟩ := hw g hd hg
    have h3 : ∀ j, w'.cell? ⟨g, j, none⟩ = w.cell? ⟨g, j, none⟩ := cell_of_heap h2
    refine .row g cap l vg vc (hD g hd) h1 hn hcap (fun i hi => ?_) ?_ ih
    · simp only [h3]; exact hc i hi
    · simp only [h3]; exact hr
theorem Twn.on {w w' : World} {D : Nat → Prop} {g cap : Nat} {l : List Wd} (h : Twn w D g cap l) (hb : Below w.heap.size w w') : Twn w' D g cap l := h.mono (fun g _ hlt => ⟨Nat.lt_of_lt_of_le hlt hb.size, hb.block g hlt⟩) (fun _ x => x)
theorem Twn.bound {w : World} {D : Nat → Prop} {g cap : Nat} {l : List Wd} (h : Twn w D g cap l) : Twn w (fun g => D g ∧ g < w.heap.size) g cap l := by
  induction h with
  | row g cap l vg vc hd hg hn hcap hc hr _ ih => exact .row g cap l vg vc ⟨hd, hg⟩ hg hn hcap hc hr ih
theorem Twn.lies {w : World} {D : Nat → Prop} {g cap : Nat} {l : List Wd} (h : Twn w D g cap l) : Lies w D (some ⟨g, 0, none⟩) l.length cap l := by
  induction h with
  | row g cap l vg vc hd hg hn hcap hc hr _ ih =>
    refine .row g 0 cap l (fun i => some ⟨vg i, 0, none⟩) (fun i => (l.getD i wd0).kids.length) vc hd hg (by unfold maxLen; omega) (fun i hi => ?_) ih
    rw [Nat.zero_add]
    exact hc i hi
/-- Twins as far as they are made. -/
structure Tw (W : World) (ka : Option Addr) (kn kc : Nat) (acc : List Wd) (D : Nat → Prop) (X : World) : Prop where
  row : ∃ its : List Wc, RowW W.heap.size (.slice ka kn kc) its X ∧ its.length = acc.length ∧ ∀ j, j < acc.length → (its.getD j wc0).kind = (acc.getD j wd0).kind ∧ (its.getD j wc0).text = (acc.getD j wd0).text ∧ (its.getD j wc0).glued = (acc.getD j wd0).glued ∧ (its.getD j wc0).kn = (acc.getD j wd0).kids.length ∧ ∃ g, (its.getD j wc0).ka = some ⟨g, 0, none⟩ ∧ Twn X D g (its.getD j wc0).kc (acc.getD j wd0).kids
  dd : ∀ g, D g → W.heap.size ≤ g ∧ g < X.heap.size ∧ (Value.slice ka kn kc).ownBlock ≠ some g
  below : Below W.heap.size W X
theorem Tw.on {W : World} {ka : Option Addr} {kn kc : Nat} {acc : List Wd} {D : Nat → Prop} {X X' : World} (h : Tw W ka kn kc acc D X) (hb : Below X.heap.size X X') : Tw W ka kn kc acc D X' := by
  obtain ⟨its, h1, h2, h3⟩ := h.row
  refine ⟨⟨its, h1.on hb, h2, fun j hj => ?_⟩, fun g hg => ⟨(h.dd g hg).1, Nat.lt_of_lt_of_le (h.dd g hg).2.1 hb.size, (h.dd g hg).2.2⟩, h.below.trans (hb.mono h.below.size)⟩
  obtain ⟨a1, a2, a3, a4, g, a5, a6⟩ := h3 j hj
  exact ⟨a1, a2, a3, a4, g, a5, a6.on hb⟩
theorem Tw.own {W : World} {ka : Option Addr} {kn kc : Nat} {acc : List Wd} {D : Nat → Prop} {X : World} (h : Tw W ka kn kc acc D X) : ∀ g, (Value.slice ka kn kc).ownBlock = some g → W.heap.size ≤ g ∧ g < X.heap.size := by
  obtain ⟨its, h1, _, _⟩ := h.row
  exact h1.lt
/-- append of one word in a new block, to a row of words. -/
theorem rput {ops : Array Oper} {rest : List Oper} {o : Oper} {a : Act} {Q : Exit → Act → World → Prop} (hgd : o.guard = none) (s x : Operand)
    (ho : o.op = .call { callee := .builtin .append, args := #[s, x], argTypes := #[24, 24] })
    {B : Nat} {ka : Option Addr} {kn kc : Nat} {its : List Wc} {X : World} (h : RowW B (.slice ka kn kc) its X) (hB : B ≤ X.heap.size) (c : Wc) (hs : a.eval s = .slice ka kn kc) (hx : a.eval x = .slice (some ⟨X.heap.size, 0, none⟩) 1 1) (hl : its.length ≤ 100000000)
    (hk : ∀ g kc' X', RowW B (.slice (some ⟨g, 0, none⟩) (its.length + 1) kc') (its ++ [c]) X' → X.heap.size ≤ X'.heap.size → (∀ q, q < X.heap.size → (Value.slice ka kn kc).ownBlock ≠ some q → X'.heap[q]? = X.heap[q]?) → ((Value.slice ka kn kc).ownBlock = some g ∨ X.heap.size ≤ g) → Below B X X' → wpList Tryd.prog ops Q rest (a.put o.dst (.slice (some ⟨g, 0, none⟩) (its.length + 1) kc')) X') :
    wpList Tryd.prog ops Q (o :: rest) a (X.alloc (.cells #[.int .i64 c.kind, .string c.text, .slice c.ka c.kn c.kc, .bool c.glued] 33)) := by
  obtain ⟨i0, hi, hz0, hz1, hz2⟩ := info_parts Tryd.infoWord
  have hA := (Below.refl X.heap.size X).alloc (Nat.le_refl _) (.cells #[.int .i64 c.kind, .string c.text, .slice c.ka c.kn c.kc, .bool c.glued] 33)
  have hYx := heap_alloc_new X (.cells #[.int .i64 c.kind, .string c.text, .slice c.ka c.kn c.kc, .bool c.glued] 33)
  have hrow1 := RowW.on (v := .slice ka kn kc) h hA
  have hown := h.lt
  refine wpList_append_lies _ hgd s x 24 ho B 33 i0 (.agg #[.int .i64 0, .string ⟨#[]⟩, .slice none 0 0, .bool false]) 4 56 Tryd.underlying24 hi hz0 hz1 hz2 rfl (by decide) (.slice ka kn kc) its.length (wc its) hs hrow1 ⟨X.heap.size, 0, none⟩ 1 1 (wc [c]) hx (wc_length [c]) ?_ (wc_one [c]) (by decide) (by unfold maxLen; omega) (by omega) (Nat.le_trans hB hA.size) (X.heap.size + 1) (by simp) ?_
  · intro k u hk
    have e : wc [c] = [.int .i64 c.kind, .string c.text, .slice c.ka c.kn c.kc, .bool c.glued] := rfl
    rw [e] at hk
    match k, hk with
    | 0, hk => simp at hk; subst hk; exact cell_of_row _ _ 0 _ _ _ hYx
    | 1, hk => simp at hk; subst hk; exact cell_of_row _ _ 1 _ _ _ hYx
    | 2, hk => simp at hk; subst hk; exact cell_of_row _ _ 2 _ _ _ hYx
    | 3, hk => simp at hk; subst hk; exact cell_of_row _ _ 3 _ _ _ hYx
    | (k + 4), hk => simp at hk
  intro g cap w2 hrow2 hgr hgg hglt
  rw [← wc_append] at hrow2
  refine hk g cap w2 (by unfold RowW; rw [List.length_append]; exact hrow2) (Nat.le_trans hA.size hgr.size) (fun q hq hne => ?_) (hgg.imp id (fun e => by omega)) ((hA.mono hB).grown hgr (Nat.le_trans hB hA.size) (fun k hk' => (hown k hk').1))
  rw [hgr.block q (Nat.lt_of_lt_of_le hq hA.size) (fun e => hne e.symm), hA.block q hq]
/-- One more twin. -/
theorem Tw.more {W : World} {ka : Option Addr} {kn kc : Nat} {acc : List Wd} {D D' : Nat → Prop} {X X' : World} (h : Tw W ka kn kc acc D X) {its : List Wc} {c : Wc} {g kc' : Nat} {d : Wd} {gk : Nat}
    (hits : its.length = acc.length) (hwd : ∀ j, j < acc.length → (its.getD j wc0).kind = (acc.getD j wd0).kind ∧ (its.getD j wc0).text = (acc.getD j wd0).text ∧ (its.getD j wc0).glued = (acc.getD j wd0).glued ∧ (its.getD j wc0).kn = (acc.getD j wd0).kids.length ∧ ∃ g, (its.getD j wc0).ka = some ⟨g, 0, none⟩ ∧ Twn X D g (its.getD j wc0).kc (acc.getD j wd0).kids)
    (h4 : RowW W.heap.size (.slice (some ⟨g, 0, none⟩) (its.length + 1) kc') (its ++ [c]) X') (hsz : X.heap.size ≤ X'.heap.size) (hblk : ∀ q, q < X.heap.size → (Value.slice ka kn kc).ownBlock ≠ some q → X'.heap[q]? = X.heap[q]?) (hg : (Value.slice ka kn kc).ownBlock = some g ∨ X.heap.size ≤ g) (hb : Below W.heap.size X X')
    (hc : c.kind = d.kind ∧ c.text = d.text ∧ c.glued = d.glued ∧ c.kn = d.kids.length ∧ c.ka = some ⟨gk, 0, none⟩) (hk : Twn X D' gk c.kc d.kids) (hDD : ∀ g, D g → D' g) (hD' : ∀ g, D' g → W.heap.size ≤ g ∧ g < X.heap.size ∧ (Value.slice ka kn kc).ownBlock ≠ some g) :
    Tw W (some ⟨g, 0, none⟩) (its.length + 1) kc' (acc ++ [d]) D' X' := by
  have hm : ∀ g, D' g → g < X.heap.size → g < X'.heap.size ∧ X'.heap[g]? = X.heap[g]? := fun g hg hlt => ⟨by omega, hblk g hlt (hD' g hg).2.2⟩
  refine ⟨⟨its ++ [c], by have := h4; exact this, by simp [hits], fun j hj => ?_⟩, fun q hq => ?_, h.below.trans hb⟩
  · by_cases hjl : j < acc.length
    · rw [getD_snoc_lt _ _ _ _ (by omega), getD_snoc_lt _ _ _ _ hjl]
      obtain ⟨a1, a2, a3, a4, g, a5, a6⟩ := hwd j hjl
      exact ⟨a1, a2, a3, a4, g, a5, a6.mono (fun g hg hlt => hm g (hDD g hg) hlt) hDD⟩
    · have hje : j = acc.length := by simp at hj; omega
      subst hje
      rw [show (its ++ [c]).getD acc.length wc0 = c by rw [← hits]; exact getD_snoc_eq _ _ _, show (acc ++ [d]).getD acc.length wd0 = d from getD_snoc_eq _ _ _]
      exact ⟨hc.1, hc.2.1, hc.2.2.1, hc.2.2.2.1, gk, hc.2.2.2.2, hk.mono hm (fun _ x => x)⟩
  · obtain ⟨a1, a2, a3⟩ := hD' q hq
    refine ⟨a1, by omega, fun e => ?_⟩
    have e2 : g = q := by simpa [Value.ownBlock] using e
    rcases hg with hg | hg
    · rw [e2] at hg; exact a3 hg
    · omega
/-- All twins, and the one behind. -/
theorem Tw.whole {W : World} {ka : Option Addr} {kn kc : Nat} {acc : List Wd} {D : Nat → Prop} {X X' : World} (h : Tw W ka kn kc acc D X) {its : List Wc} {g kc' : Nat}
    (hits : its.length = acc.length) (hwd : ∀ j, j < acc.length → (its.getD j wc0).kind = (acc.getD j wd0).kind ∧ (its.getD j wc0).text = (acc.getD j wd0).text ∧ (its.getD j wc0).glued = (acc.getD j wd0).glued ∧ (its.getD j wc0).kn = (acc.getD j wd0).kids.length ∧ ∃ g, (its.getD j wc0).ka = some ⟨g, 0, none⟩ ∧ Twn X D g (its.getD j wc0).kc (acc.getD j wd0).kids)
    (h4 : RowW W.heap.size (.slice (some ⟨g, 0, none⟩) (its.length + 1) kc') (its ++ [⟨77, ⟨#[114, 111, 111, 109]⟩, none, 0, 0, false⟩]) X') (hsz : X.heap.size ≤ X'.heap.size) (hblk : ∀ q, q < X.heap.size → (Value.slice ka kn kc).ownBlock ≠ some q → X'.heap[q]? = X.heap[q]?) (hl : acc.length ≤ 1048576) :
    Twn X' (fun g => W.heap.size ≤ g) g kc' acc := by
  have hlt := h4.lt g rfl
  have hcap : acc.length + 1 ≤ kc' := by
    rcases h4.2 with ⟨hn, _⟩ | ⟨g', cap', cur, he, _, _, h1, _⟩
    · cases hn
    · injection he with _ _ e3
      rw [List.length_append, List.length_singleton] at h1
      omega
  have hat : ∀ i, i < acc.length + 1 → _ := fun i hi => h4.at i (by rw [List.length_append, List.length_singleton]; omega)
  refine .row g kc' acc (fun i => match (its.getD i wc0).ka with | some ad => ad.block | none => 0) (fun i => (its.getD i wc0).kc) hlt.1 hlt.2 (by omega) hcap (fun i hi => ?_) ?_ (fun i hi => ?_)
  · obtain ⟨a1, a2, a3, a4, g2, a5, a6⟩ := hwd i hi
    have := hat i (by omega)
    rw [getD_snoc_lt _ _ _ _ (by omega)] at this
    obtain ⟨b1, b2, b3, b4⟩ := this
    refine ⟨by rw [b1, a1], by rw [b2, a2], ?_, by rw [b4, a3]⟩
    rw [b3]
    unfold Wc.kv
    rw [a4, a5]
  · have := hat acc.length (by omega)
    rw [show (its ++ [(⟨77, ⟨#[114, 111, 111, 109]⟩, none, 0, 0, false⟩ : Wc)]).getD acc.length wc0 = ⟨77, ⟨#[114, 111, 111, 109]⟩, none, 0, 0, false⟩ by rw [← hits]; exact getD_snoc_eq _ _ _] at this
    exact this
  · obtain ⟨a1, a2, a3, a4, g2, a5, a6⟩ := hwd i hi
    rw [a5]
    exact a6.mono (fun q hq hlt => ⟨by omega, hblk q hlt (h.dd q hq).2.2⟩) (fun q hq => (h.dd q hq).1)
theorem tw_start (W : World) : Tw W none 0 0 [] (fun _ => False) W := ⟨⟨[], World.ownsRow_nil _ _ _ _, rfl, fun _ hj => absurd hj (Nat.not_lt_zero _)⟩, fun _ hg => hg.elim, Below.refl _ _⟩
end Go.Proofs.YtliiapdakojomabDoor

/- lex: twin. -/
namespace Go.Proofs.YtliiapdakojomabDoor
open Go.RowKit

theorem Twn.len {w : World} {D : Nat → Prop} {g cap : Nat} {l : List Wd} (h : Twn w D g cap l) : l.length + 1 ≤ cap ∧ l.length + 1 ≤ 1048577 := by
  cases h with
  | row _ _ _ _ _ _ _ hn hcap _ _ _ => exact ⟨hcap, hn⟩
theorem take_one (l : List Wd) (k : Nat) (hk : k < l.length) : l.take k ++ [l.getD k wd0] = l.take (k + 1) := by
  rw [← List.take_append_getElem hk, List.getD_eq_getElem?_getD, List.getElem?_eq_getElem hk]
  rfl
set_option maxRecDepth 100000 in
set_option maxHeartbeats 8000000 in
theorem twin_step (l : List Wd) (w : World) (D0 : Nat → Prop) (a : Option Addr) (n c : Nat) (h : Lies w D0 a n c l) (hbk : bkL l ≤ 1048576)
    (ih : ∀ i, i < l.length → ∀ (va : Option Addr) (vn vc : Nat), Lies w D0 va vn vc (l.getD i wd0).kids → ∀ W, Below w.heap.size w W → Calls Tryd.prog 33 #[.slice va vn vc] W fun e W' => ∃ g cap, e = .returned (.slice (some ⟨g, 0, none⟩) ((l.getD i wd0).kids.length + 1) cap) ∧ Twn W' (fun q => W.heap.size ≤ q) g cap (l.getD i wd0).kids ∧ Below W.heap.size W W')
    (W : World) (hW : Below w.heap.size w W) :
    Calls Tryd.prog 33 #[.slice a n c] W fun e W' => ∃ g cap, e = .returned (.slice (some ⟨g, 0, none⟩) (l.length + 1) cap) ∧ Twn W' (fun q => W.heap.size ≤ q) g cap l ∧ Below W.heap.size W W' := by
  obtain rfl := h.len
  have H1 := Lib.hid h
  have HIH := Lib.hid ih
  have HW := Lib.hid hW
  have hlen := bk_len l
  clear h ih hW
  go_enter Tryd.func33, Tryd.ntmps33
  go_wp2_with fail
  go_loopg [3, 4] l.length (fun gg s3 s4 wr => ∃ (k : Nat) (ka : Option Addr) (kn kc : Nat) (D : Nat → Prop) (X : World), X = wr ∧ s3 = .slice ka kn kc ∧ s4 = .int .i64 (k : Int) ∧ k ≤ l.length ∧ l.length - k ≤ gg ∧ Hid (Tw W ka kn kc (l.take k) D X))
  case atStart => exact ⟨0, none, 0, 0, _, _, rfl, rfl, rfl, Nat.zero_le _, by omega, Lib.hid (tw_start W)⟩
  case round =>
    obtain ⟨k, ka, kn, kc, D, X, hX, hs3, hs4, hk, hgg, HX⟩ := hrel
    subst hX
    subst hs3
    subst hs4
    have hbX : Below w.heap.size w X := HW.out.trans (HX.out.below.mono HW.out.size)
    by_cases hlt : k < l.length
    · have hkz : (k : Int) < (l.length : Int) := by omega
      have hk0 : (0 : Int) ≤ (k : Int) := by omega
      obtain ⟨g1, o1, rfl, hm1, va, vn, vc, ⟨p0, p1, p2, p3⟩, hk1⟩ := H1.out.pick k hlt
      obtain rfl := hk1.len
      have HT := Lib.hid (HIH.out k hlt va _ vc hk1)
      have HP2 : Hid (∀ Y : World, Below w.heap.size w Y → Y.cell? ⟨g1, o1 + k * 4 + 2, none⟩ = some (.slice va (l.getD k wd0).kids.length vc)) := Lib.hid (fun Y hY => cellB p2 hY)
      replace p0 := cellB p0 hbX
      replace p1 := cellB p1 hbX
      replace p2 := cellB p2 hbX
      replace p3 := cellB p3 hbX
      have HTK := Lib.hid (take_one l k hlt)
      have hbk1 := bk_at l k hlt
      have hbk2 := bk_len (l.getD k wd0).kids
      have HDK : Hid (∀ ck ct cg, (l.getD k wd0).kind = ck → (l.getD k wd0).text = ct → (l.getD k wd0).glued = cg → True) := Lib.hid (fun _ _ _ _ _ _ => trivial)
      clear HDK hk1 hm1 HIH H1
      generalize l.getD k wd0 = d at *
      have hkl : d.kids.length ≤ 1048576 := by omega
      clear hbk1 hbk2
      have HA4 := Lib.hid (alloc4 X (.int .i64 d.kind) (.string d.text) (.slice va d.kids.length vc) (.bool d.glued))
      go_upto_region 6 with fail
      generalize X.alloc (.cells #[.int .i64 d.kind, .string d.text, .slice va d.kids.length vc, .bool d.glued] 33) = X1 at HA4 ⊢
      obtain ⟨hr1, hb1⟩ := HA4.out
      have hbw1 : Below w.heap.size w X1 := hbX.trans (hb1.mono hbX.size)
      have HBW1 := Lib.hid hbw1
      replace p2 := HP2.out X1 hbw1
      have hz1 : X.heap.size < X1.heap.size := (Array.getElem?_eq_some_iff.1 hr1).1
      have HR1 := Lib.hid hr1
      have HB1 := Lib.hid hb1
      clear HA4 p0 p1 p3 hr1 hb1 hbw1 hbX
      go_upto_region 7 with (go_at_call 33; refine (HT.out _ HBW1.out).mono ?_; rintro e X2 ⟨gk, capk, rfl, htw, hb2⟩; have HTW := Lib.hid htw; have HB2 := Lib.hid hb2; have hcap := htw.len; replace p2 := HP2.out X2 (HBW1.out.trans (hb2.mono HBW1.out.size)); clear htw hb2)
      have hr2 : X2.heap[X.heap.size]? = some (.cells #[.int .i64 d.kind, .string d.text, .slice va d.kids.length vc, .bool d.glued] 33 (0, 0)) := by rw [HB2.out.block _ hz1]; exact HR1.out
      have x2 := cell_of_row _ _ 2 _ _ _ hr2
      have f2 : X2.frozen? ⟨X.heap.size, 2, none⟩ = false := frozen_of_row _ _ _ _ _ hr2
      have hcz : (d.kids.length : Int) ≤ (capk : Int) := by omega
      have HR3 : Hid ((X2.setCell ⟨X.heap.size, 2, none⟩ (.slice (some ⟨gk, 0, none⟩) d.kids.length capk)).heap[X.heap.size]? = some (.cells #[.int .i64 d.kind, .string d.text, .slice (some ⟨gk, 0, none⟩) d.kids.length capk, .bool d.glued] 33 (0, 0)) ∧ Below X.heap.size X (X2.setCell ⟨X.heap.size, 2, none⟩ (.slice (some ⟨gk, 0, none⟩) d.kids.length capk)) ∧ (∀ q, q ≠ X.heap.size → (X2.setCell ⟨X.heap.size, 2, none⟩ (.slice (some ⟨gk, 0, none⟩) d.kids.length capk)).heap[q]? = X2.heap[q]?) ∧ (X2.setCell ⟨X.heap.size, 2, none⟩ (.slice (some ⟨gk, 0, none⟩) d.kids.length capk)).heap.size = X2.heap.size) := Lib.hid ⟨heap_setCell_same X2 X.heap.size 2 _ _ (.slice (some ⟨gk, 0, none⟩) d.kids.length capk) hr2, (HB1.out.trans (HB2.out.mono (by have := HB1.out.size; omega))).setCell (p := ⟨X.heap.size, 2, none⟩) (Nat.le_refl _) _, fun q hq => heap_setCell_other X2 ⟨X.heap.size, 2, none⟩ q _ hq, by simp⟩
      clear hr2 HR1
      go_upto_region 8 with fail
      generalize X2.setCell ⟨X.heap.size, 2, none⟩ (.slice (some ⟨gk, 0, none⟩) d.kids.length capk) = X3 at HR3 ⊢
      obtain ⟨hr3, hb3, ho3, hz3⟩ := HR3.out
      clear HR3 x2 f2 p2
      have HX3 := Lib.hid (HX.out.on hb3)
      obtain ⟨its, hrow, hil, hwd⟩ := HX3.out.row
      have HIL := Lib.hid hil
      have HROW := Lib.hid hrow
      have HWD := Lib.hid hwd
      have x0 := cell_of_row _ _ 0 _ _ _ hr3
      have x1 := cell_of_row _ _ 1 _ _ _ hr3
      have x2 := cell_of_row _ _ 2 _ _ _ hr3
      have x3 := cell_of_row _ _ 3 _ _ _ hr3
      have hz2 := HB2.out.size
      have HTW3 : Hid (Twn X3 (fun q => D q ∨ (X1.heap.size ≤ q ∧ q < X2.heap.size)) gk capk d.kids) := Lib.hid (HTW.out.bound.mono (fun q hq hlt => ⟨by omega, ho3 q (by have := hq.1; omega)⟩) (fun q hq => .inr hq))
      have HDW : Hid (∀ q, (D q ∨ (X1.heap.size ≤ q ∧ q < X2.heap.size)) → W.heap.size ≤ q ∧ q < X3.heap.size ∧ (Value.slice ka kn kc).ownBlock ≠ some q) := Lib.hid (fun q hq => by
        have hbs := HX.out.below.size
        rcases hq with hq | ⟨hq, hq2⟩
        · obtain ⟨u1, u2, u3⟩ := HX.out.dd q hq
          exact ⟨u1, by omega, u3⟩
        · refine ⟨by omega, by omega, fun e => ?_⟩
          have := (HX.out.own q e).2
          omega)
      have hitl : its.length ≤ 100000000 := by have := HIL.out; rw [List.length_take] at this; omega
      have hB3 : W.heap.size ≤ X3.heap.size := HX3.out.below.size
      clear hrow hil hwd hr3 hb3 ho3 hz3 HTW
      go_wp2_with (at_builtin; refine rput rfl _ _ rfl HROW.out hB3 ⟨d.kind, d.text, some ⟨gk, 0, none⟩, d.kids.length, capk, d.glued⟩ rfl rfl hitl ?_; intro g4 kc4 X4 hr4 hs4 hblk4 hg4 hb4; have HM := Lib.hid (HX3.out.more HIL.out HWD.out hr4 hs4 hblk4 hg4 hb4 ⟨rfl, rfl, rfl, rfl, rfl⟩ HTW3.out (fun _ hq => .inl hq) HDW.out); clear hr4 hs4 hblk4 hg4 hb4)
      go_roundg (l.length - (k + 1))
      case measure => omega
      case rel => exact ⟨k + 1, _, _, _, _, _, rfl, rfl, by go_num, hlt, Nat.le_refl _, Lib.hid (by rw [← HTK.out]; exact HM.out)⟩
    · have hkz : ¬ (k : Int) < (l.length : Int) := by omega
      have hlk : l.take k = l := List.take_of_length_le (by omega)
      rw [hlk] at HX
      obtain ⟨its, hrow, hil, hwd⟩ := HX.out.row
      have HIL := Lib.hid hil
      have HROW := Lib.hid hrow
      have HWD := Lib.hid hwd
      have hitl : its.length ≤ 100000000 := by omega
      have hB3 : W.heap.size ≤ X.heap.size := HX.out.below.size
      clear hrow hil hwd hlk hbX
      go_wp2_with (at_builtin; refine rput rfl _ _ rfl HROW.out hB3 ⟨77, ⟨#[114, 111, 111, 109]⟩, none, 0, 0, false⟩ rfl rfl hitl ?_; intro g4 kc4 X4 hr4 hs4 hblk4 hg4 hb4; have HM := Lib.hid (HX.out.whole HIL.out HWD.out hr4 hs4 hblk4 (by omega)); have HB4 := Lib.hid (HX.out.below.trans hb4); clear hr4 hs4 hblk4 hg4 hb4)
      go_ret
      exact ⟨g4, kc4, by rw [HIL.out]; rfl, HM.out, HB4.out⟩
theorem twin_any (N : Nat) : ∀ (l : List Wd), SizeOf.sizeOf l < N → ∀ (w : World) (D0 : Nat → Prop) (a : Option Addr) (n c : Nat), Lies w D0 a n c l → bkL l ≤ 1048576 → ∀ W, Below w.heap.size w W →
    Calls Tryd.prog 33 #[.slice a n c] W fun e W' => ∃ g cap, e = .returned (.slice (some ⟨g, 0, none⟩) (l.length + 1) cap) ∧ Twn W' (fun q => W.heap.size ≤ q) g cap l ∧ Below W.heap.size W W' := by
  induction N with
  | zero => intro l h; omega
  | succ N ih =>
    intro l hN w D0 a n c h hb W hW
    exact twin_step l w D0 a n c h hb (fun i hi va vn vc k1 W' hW' => ih _ (by have := kids_lt l i hi; omega) w D0 va vn vc k1 (by have := bk_at l i hi; omega) W' hW') W hW
end Go.Proofs.YtliiapdakojomabDoor

/- lex: whole. -/
namespace Go.Proofs.YtliiapdakojomabDoor
open Go.RowKit

theorem Twn.pick {w : World} {D : Nat → Prop} {g cap : Nat} {l : List Wd} (h : Twn w D g cap l) : (w.cell? ⟨g, l.length * 4, none⟩ = some (.int .i64 77) ∧ w.cell? ⟨g, l.length * 4 + 1, none⟩ = some (.string ⟨#[114, 111, 111, 109]⟩) ∧ w.cell? ⟨g, l.length * 4 + 2, none⟩ = some (.slice none 0 0) ∧ w.cell? ⟨g, l.length * 4 + 3, none⟩ = some (.bool false)) ∧ ∀ i, i < l.length → ∃ vg vc, w.cell? ⟨g, i * 4 + 2, none⟩ = some (.slice (some ⟨vg, 0, none⟩) (l.getD i wd0).kids.length vc) ∧ Twn w D vg vc (l.getD i wd0).kids := by
  cases h with
  | row _ _ _ vg vc _ _ _ _ hc hr hk => exact ⟨hr, fun i hi => ⟨vg i, vc i, (hc i hi).2.2.1, hk i hi⟩⟩
/-- What is known while the kids of two words are gone into. -/
abbrev WhS (g1 o1 g2 k vg vc : Nat) (va : Option Addr) (wn wc kl : Nat) (w W : World) : World → Prop := fun X =>
  X.cell? ⟨g2, k * 4 + 2, none⟩ = some (.slice (some ⟨vg, 0, none⟩) kl vc) ∧ X.cell? ⟨g1, o1 + k * 4 + 2, none⟩ = some (.slice va wn wc) ∧ Hid (Below w.heap.size w X) ∧ Hid (Below W.heap.size W X)
theorem WhS.on {g1 o1 g2 k vg vc : Nat} {va : Option Addr} {wn wc kl : Nat} {w W X Y : World} (h : WhS g1 o1 g2 k vg vc va wn wc kl w W X) (hb : Below X.heap.size X Y) : WhS g1 o1 g2 k vg vc va wn wc kl w W Y := by
  obtain ⟨p0, p1, h1, h2⟩ := h
  exact ⟨cellB p0 hb, cellB p1 hb, Lib.hid (h1.out.trans (hb.mono h1.out.size)), Lib.hid (h2.out.trans (hb.mono h2.out.size))⟩
set_option maxRecDepth 100000 in
set_option maxHeartbeats 8000000 in
theorem whole_step (l : List Wd) (w : World) (D D0 : Nat → Prop) (g2 cap : Nat) (a : Option Addr) (n c : Nat) (h1 : Twn w D g2 cap l) (h2 : Lies w D0 a n c l)
    (ih : ∀ i, i < l.length → ∀ (vg vc : Nat) (va : Option Addr) (wn wc : Nat), Twn w D vg vc (l.getD i wd0).kids → Lies w D0 va wn wc (l.getD i wd0).kids → ∀ W, Below w.heap.size w W → Calls Tryd.prog 34 #[.slice (some ⟨vg, 0, none⟩) (l.getD i wd0).kids.length vc, .slice va wn wc] W fun e w' => e = .returned (.bool true) ∧ Below W.heap.size W w') (W : World) (hW : Below w.heap.size w W) :
    Calls Tryd.prog 34 #[.slice (some ⟨g2, 0, none⟩) l.length cap, .slice a n c] W fun e w' => e = .returned (.bool true) ∧ Below W.heap.size W w' := by
  obtain rfl := h2.len
  have HS0 := Lib.hid (samg_any (SizeOf.sizeOf l + 1) l l (Nat.lt_succ_self _) w D D0 _ _ _ _ _ _ h1.lies h2 W hW)
  rw [eqL_refl2] at HS0
  obtain ⟨hr, hpk⟩ := h1.pick
  obtain ⟨hcap, hlen⟩ := h1.len
  have HPK := Lib.hid hpk
  have H2 := Lib.hid h2
  have HIH := Lib.hid ih
  have HW := Lib.hid hW
  have HR := Lib.hid hr
  have hcz : (l.length : Int) + 1 ≤ (cap : Int) := by omega
  have hl0 : (0 : Int) ≤ (l.length : Int) := by omega
  have hl1 : (l.length : Int) < (l.length : Int) + 1 := by omega
  clear h1 h2 ih hW hr hpk
  go_enter Tryd.func34, Tryd.ntmps34
  go_upto_region 4 with (go_at_call 21; refine HS0.out.mono ?_; rintro e W1 ⟨rfl, hb1⟩; have HB1 := Lib.hid hb1; have hbw := HW.out.trans (hb1.mono HW.out.size); have HBW1 := Lib.hid hbw; clear hb1 hbw)
  obtain ⟨y0, y1, y2, y3⟩ := HR.out
  replace y0 := cellB y0 HBW1.out
  replace y1 := cellB y1 HBW1.out
  replace y2 := cellB y2 HBW1.out
  replace y3 := cellB y3 HBW1.out
  have HA4 := Lib.hid (alloc4 W1 (.int .i64 77) (.string ⟨#[114, 111, 111, 109]⟩) (.slice none 0 0) (.bool false))
  go_upto_region 5 with fail
  generalize W1.alloc (.cells #[.int .i64 77, .string ⟨#[114, 111, 111, 109]⟩, .slice none 0 0, .bool false] 33) = W2 at HA4 ⊢
  obtain ⟨hr2, hb2⟩ := HA4.out
  have HBW := Lib.hid (HBW1.out.trans (hb2.mono HBW1.out.size))
  have HB := Lib.hid (HB1.out.trans (hb2.mono HB1.out.size))
  have z0 := cell_of_row _ _ 0 _ _ _ hr2
  have z1 := cell_of_row _ _ 1 _ _ _ hr2
  have z2 := cell_of_row _ _ 2 _ _ _ hr2
  clear y0 y1 y2 y3 HA4 hr2 hb2 HR HB1 HBW1 HS0
  generalize W1.heap.size = gb at *
  go_wp2_with fail
  clear z0 z1 z2
  go_loopg [7] l.length (fun gg s7 wr => ∃ (k : Nat) (X : World), X = wr ∧ k ≤ l.length ∧ l.length - k ≤ gg ∧ s7 = .int .i64 (k : Int) ∧ Hid (Below w.heap.size w X) ∧ Hid (Below W.heap.size W X))
  case atStart => exact ⟨0, _, rfl, Nat.zero_le _, by omega, rfl, HBW, HB⟩
  case round =>
    clear HBW HB
    obtain ⟨k, X, hX, hk, hgg, rfl, HBX, HB⟩ := hrel
    subst hX
    by_cases hlt : k < l.length
    · have hkz : (k : Int) < (l.length : Int) := by omega
      have hk0 : (0 : Int) ≤ (k : Int) := by omega
      obtain ⟨vg, vc, p2, ht⟩ := HPK.out k hlt
      obtain ⟨g1, o1, rfl, _, va, wn, wc', ⟨_, _, r2, _⟩, hk2⟩ := H2.out.pick k hlt
      have HS := Lib.hid (HIH.out k hlt vg vc va wn wc' ht hk2)
      replace p2 := cellB p2 HBX.out
      replace r2 := cellB r2 HBX.out
      clear ht hk2 HIH HPK H2 HW
      generalize (l.getD k wd0).kids.length = kl at *
      go_wp2_with fail
      have st0 : WhS g1 o1 g2 k vg vc va wn wc' kl w W X := ⟨p2, r2, HBX, HB⟩
      have st := st0.on ((Below.refl _ _).drew)
      clear p2 r2 HB HBX st0
      refine wp_region_held_drew (S := WhS g1 o1 g2 k vg vc va wn wc' kl w W) (by kernel_rfl) st (fun hHeld => ?_)
      clear hHeld
      refine wpAnyH_take (i := 0) (oi := { dst := some 41, op := Go.Op.move (Go.Operand.tmp 0), type := 24, pos := "law.go:83", after := #[], guard := none }) (v := ?_) rfl (by kernel_rfl) (by kernel_rfl) (by kernel_rfl) (fun _ _ _ h => h) (Or.inl ⟨by kernel_rfl, ?_⟩) st ?_
      rotate_left
      · (intro X hX; (try dsimp only at hX); go_simp; try (with_reducible rfl))
      (try simp only [Act.put, List.setIfInBounds_toArray, List.set_cons_zero, List.set_cons_succ])
      refine wpAnyH_take (i := 1) (oi := { dst := some 42, op := Go.Op.move (Go.Operand.tmp 7), type := 3, pos := "law.go:83", after := #[], guard := none }) (v := ?_) rfl (by kernel_rfl) (by kernel_rfl) (by kernel_rfl) (fun _ _ _ h => h) (Or.inl ⟨by kernel_rfl, ?_⟩) st ?_
      rotate_left
      · (intro X hX; (try dsimp only at hX); go_simp; try (with_reducible rfl))
      (try simp only [Act.put, List.setIfInBounds_toArray, List.set_cons_zero, List.set_cons_succ])
      refine wpAnyH_take (i := 2) (oi := { dst := some 43, op := Go.Op.indexAddr 24 (Go.Operand.tmp 41) (Go.Operand.tmp 42), type := 0, pos := "law.go:83", after := #[{ on := 0, ground := Go.Ground.data }, { on := 1, ground := Go.Ground.data }], guard := none }) (v := ?_) rfl (by kernel_rfl) (by kernel_rfl) (by kernel_rfl) (fun _ _ _ h => h) (Or.inl ⟨by kernel_rfl, ?_⟩) st ?_
      rotate_left
      · (intro X hX; (try dsimp only at hX); go_simp; try (with_reducible rfl))
      (try simp only [Act.put, List.setIfInBounds_toArray, List.set_cons_zero, List.set_cons_succ])
      refine wpAnyH_take (i := 3) (oi := { dst := some 44, op := Go.Op.fieldAddr 33 (Go.Operand.tmp 43) 2, type := 0, pos := "law.go:83", after := #[{ on := 2, ground := Go.Ground.data }], guard := none }) (v := ?_) rfl (by kernel_rfl) (by kernel_rfl) (by kernel_rfl) (fun _ _ _ h => h) (Or.inl ⟨by kernel_rfl, ?_⟩) st ?_
      rotate_left
      · (intro X hX; (try dsimp only at hX); go_simp; try (with_reducible rfl))
      (try simp only [Act.put, List.setIfInBounds_toArray, List.set_cons_zero, List.set_cons_succ])
      refine wpAnyH_take (i := 4) (oi := { dst := some 45, op := Go.Op.load 24 (Go.Operand.tmp 44), type := 24, pos := "law.go:83", after := #[{ on := 3, ground := Go.Ground.data }], guard := none }) (v := ?_) rfl (by kernel_rfl) (by kernel_rfl) (by kernel_rfl) (fun _ _ _ h => h) (Or.inl ⟨by kernel_rfl, ?_⟩) st ?_
      rotate_left
      · (intro X hX; (try dsimp only at hX); go_simp; try (with_reducible rfl))
      (try simp only [Act.put, List.setIfInBounds_toArray, List.set_cons_zero, List.set_cons_succ])
      refine wpAnyH_take (i := 5) (oi := { dst := some 46, op := Go.Op.move (Go.Operand.tmp 1), type := 24, pos := "law.go:83", after := #[], guard := none }) (v := ?_) rfl (by kernel_rfl) (by kernel_rfl) (by kernel_rfl) (fun _ _ _ h => h) (Or.inl ⟨by kernel_rfl, ?_⟩) st ?_
      rotate_left
      · (intro X hX; (try dsimp only at hX); go_simp; try (with_reducible rfl))
      (try simp only [Act.put, List.setIfInBounds_toArray, List.set_cons_zero, List.set_cons_succ])
      refine wpAnyH_take (i := 6) (oi := { dst := some 47, op := Go.Op.move (Go.Operand.tmp 7), type := 3, pos := "law.go:83", after := #[], guard := none }) (v := ?_) rfl (by kernel_rfl) (by kernel_rfl) (by kernel_rfl) (fun _ _ _ h => h) (Or.inl ⟨by kernel_rfl, ?_⟩) st ?_
      rotate_left
      · (intro X hX; (try dsimp only at hX); go_simp; try (with_reducible rfl))
      (try simp only [Act.put, List.setIfInBounds_toArray, List.set_cons_zero, List.set_cons_succ])
      refine wpAnyH_take (i := 7) (oi := { dst := some 48, op := Go.Op.indexAddr 24 (Go.Operand.tmp 46) (Go.Operand.tmp 47), type := 0, pos := "law.go:83", after := #[{ on := 5, ground := Go.Ground.data }, { on := 6, ground := Go.Ground.data }], guard := none }) (v := ?_) rfl (by kernel_rfl) (by kernel_rfl) (by kernel_rfl) (fun _ _ _ h => h) (Or.inl ⟨by kernel_rfl, ?_⟩) st ?_
      rotate_left
      · (intro X hX; (try dsimp only at hX); go_simp; try (with_reducible rfl))
      (try simp only [Act.put, List.setIfInBounds_toArray, List.set_cons_zero, List.set_cons_succ])
      refine wpAnyH_take (i := 8) (oi := { dst := some 49, op := Go.Op.fieldAddr 33 (Go.Operand.tmp 48) 2, type := 0, pos := "law.go:83", after := #[{ on := 7, ground := Go.Ground.data }], guard := none }) (v := ?_) rfl (by kernel_rfl) (by kernel_rfl) (by kernel_rfl) (fun _ _ _ h => h) (Or.inl ⟨by kernel_rfl, ?_⟩) st ?_
      rotate_left
      · (intro X hX; (try dsimp only at hX); go_simp; try (with_reducible rfl))
      (try simp only [Act.put, List.setIfInBounds_toArray, List.set_cons_zero, List.set_cons_succ])
      refine wpAnyH_take (i := 9) (oi := { dst := some 50, op := Go.Op.load 24 (Go.Operand.tmp 49), type := 24, pos := "law.go:83", after := #[{ on := 8, ground := Go.Ground.data }], guard := none }) (v := ?_) rfl (by kernel_rfl) (by kernel_rfl) (by kernel_rfl) (fun _ _ _ h => h) (Or.inl ⟨by kernel_rfl, ?_⟩) st ?_
      rotate_left
      · (intro X hX; (try dsimp only at hX); go_simp; try (with_reducible rfl))
      (try simp only [Act.put, List.setIfInBounds_toArray, List.set_cons_zero, List.set_cons_succ])
      refine wpAnyH_ready (rs := [10]) (by kernel_rfl) (by simp) ?_
      refine AllReadyH.cons (o := { dst := some 51, op := Go.Op.call { callee := Go.Callee.value (Go.Operand.func 34), args := #[Go.Operand.tmp 45, Go.Operand.tmp 50], argTypes := #[24, 24] }, type := 4, pos := "law.go:83", after := #[{ on := 4, ground := Go.Ground.data }, { on := 9, ground := Go.Ground.data }], guard := none }) rfl (fun K hK => ?_) AllReadyH.nil
      go_simp
      refine (HS.out _ st.2.2.1.out).mono ?_
      rintro e w3 ⟨rfl, hb3⟩
      have st2 := st.on hb3
      clear st HS
      dsimp only
      refine hK.out _ _ st2 (fun hHeld => ?_)
      clear hHeld hK K
      (try simp only [Act.put, List.setIfInBounds_toArray, List.set_cons_zero, List.set_cons_succ])
      refine wpAnyH_take (i := 11) (oi := { dst := some 8, op := Go.Op.assign (Go.Operand.tmp 51), type := 4, pos := "law.go:83", after := #[{ on := 10, ground := Go.Ground.data }, { on := 10, ground := Go.Ground.chain }, { on := 0, ground := Go.Ground.phase }, { on := 1, ground := Go.Ground.phase }, { on := 2, ground := Go.Ground.phase }, { on := 3, ground := Go.Ground.phase }, { on := 4, ground := Go.Ground.phase }, { on := 5, ground := Go.Ground.phase }, { on := 6, ground := Go.Ground.phase }, { on := 7, ground := Go.Ground.phase }, { on := 8, ground := Go.Ground.phase }, { on := 9, ground := Go.Ground.phase }, { on := 10, ground := Go.Ground.phase }], guard := none }) (v := ?_) rfl (by kernel_rfl) (by kernel_rfl) (by kernel_rfl) (fun _ _ _ h => h) (Or.inl ⟨by kernel_rfl, ?_⟩) st2 ?_
      rotate_left
      · (intro X hX; (try dsimp only at hX); go_simp; try (with_reducible rfl))
      (try simp only [Act.put, List.setIfInBounds_toArray, List.set_cons_zero, List.set_cons_succ])
      refine wpAnyH_done (by kernel_rfl) ?_ _
      go_wp2_with fail
      go_roundg (l.length - (k + 1))
      case measure => omega
      case rel => exact ⟨k + 1, _, rfl, hlt, Nat.le_refl _, by go_num, st2.2.2.1, st2.2.2.2⟩
    · have hkz : ¬ (k : Int) < (l.length : Int) := by omega
      go_wp2_with fail
      go_ret
      exact ⟨rfl, HB.out⟩
theorem whole_any (N : Nat) : ∀ (l : List Wd), SizeOf.sizeOf l < N → ∀ (w : World) (D D0 : Nat → Prop) (g2 cap : Nat) (a : Option Addr) (n c : Nat), Twn w D g2 cap l → Lies w D0 a n c l → ∀ W, Below w.heap.size w W →
    Calls Tryd.prog 34 #[.slice (some ⟨g2, 0, none⟩) l.length cap, .slice a n c] W fun e w' => e = .returned (.bool true) ∧ Below W.heap.size W w' := by
  induction N with
  | zero => intro l h; omega
  | succ N ih =>
    intro l hN w D D0 g2 cap a n c h1 h2 W hW
    exact whole_step l w D D0 g2 cap a n c h1 h2 (fun i hi vg vc va wn wc' k1 k2 W' hW' => ih _ (by have := kids_lt l i hi; omega) w D D0 vg vc va wn wc' k1 k2 W' hW') W hW
end Go.Proofs.YtliiapdakojomabDoor

/- lex: the document's Join. -/
namespace Go.Proofs.YtliiapdakojomabDoor
open Go.RowKit

mutual
theorem lt_small : ∀ (l : List Wd) (x : ByteArray), x ∈ lt l → x.size ≤ bkL l
  | [], x, h => by simp [lt] at h
  | d :: r, x, h => by
    rw [lt, List.mem_append] at h
    rw [bkL]
    rcases h with h | h
    · have := l1_small d x h; omega
    · have := lt_small r x h; omega
theorem l1_small : ∀ (d : Wd) (x : ByteArray), x ∈ l1 d → x.size ≤ bk1 d
  | .mk k t l g, x, h => by
    rw [l1] at h
    rw [bk1]
    split at h
    · simp at h
      subst h
      omega
    · split at h
      · have := lt_small l x h; omega
      · split at h
        · have := lt_small l x h; omega
        · simp at h
end
theorem RowT.strs {w : World} {xa : Option Addr} {xn xc : Nat} {ls : List ByteArray} {X : World} (h : RowT w xa xn xc ls X) (hl : ls.length ≤ 1000) : Strs X (.slice xa xn xc) ls := by
  have hn := h.len
  subst hn
  rcases h.row.2 with ⟨e, h0⟩ | ⟨g, cap, cur, e, hB, hg, h1, rest⟩
  · injection e with e1 e2 e3
    subst e1 e3
    exact .inl ⟨List.eq_nil_of_length_eq_zero h0, none, 0, by rw [h0]⟩
  · injection e with e1 e2 e3
    subst e1 e3
    refine .inr ⟨g, 0, xc, rfl, by omega, by omega, (Array.getElem?_eq_some_iff.1 hg).1, fun i hi => ?_⟩
    have := h.row.cells (g := g) rfl i (.string (ls.getD i ByteArray.empty)) (by rw [List.getElem?_map, List.getD_eq_getElem?_getD, List.getElem?_eq_getElem hi]; rfl)
    rw [Addr.add_lit] at this
    exact this
set_option maxRecDepth 100000 in
set_option maxHeartbeats 4000000 in
theorem rJoin_any (l : List Wd) (a : Option Addr) (n c : Nat) (D : Nat → Prop) (w : World) (hL : Lies w D a n c l) (hbk : bkL l ≤ 1048576) :
    Calls Tryd.prog 32 #[.slice a n c] w fun e w' => ∃ xa xn xc, e = .returned (.tuple #[.string (S (rjoin l).2.1), .slice xa xn xc, .int .i64 (rjoin l).1]) ∧ Strs w' (.slice xa xn xc) (rjoin l).2.2 ∧ Below w.heap.size w w' := by
  obtain rfl := hL.len
  have hlen := bk_len l
  by_cases hlong : 512 < l.length
  · have hz : (512 : Int) < (l.length : Int) := by omega
    have HJ : Hid (rjoin l = (2, [], [])) := Lib.hid (by unfold rjoin; rw [if_pos hlong])
    clear hL
    go_enter Tryd.func32, Tryd.ntmps32
    go_wp2_with fail
    go_ret3
    exact ⟨none, 0, 0, by rw [HJ.out]; rfl, by rw [HJ.out]; exact .inl ⟨rfl, none, 0, rfl⟩, Below.refl _ _⟩
  have hz : ¬ (512 : Int) < (l.length : Int) := by omega
  have HWR := Lib.hid (written_any (SizeOf.sizeOf l + 1) l (Nat.lt_succ_self _) w D a _ c hL hbk w none 0 0 [] ⟨World.ownsRow_nil _ _ _ _, Below.refl _ _⟩ (by simp))
  have HL := Lib.hid hL
  clear hL
  cases hw : wrt true [] [] l with
  | none =>
    rw [hw] at HWR
    have HJ : Hid (rjoin l = (1, [], [])) := Lib.hid (by unfold rjoin; rw [if_neg hlong, hw])
    clear hw
    go_enter Tryd.func32, Tryd.ntmps32
    go_wp2_with (go_at_call 52; refine HWR.out.mono ?_; rintro e w1 ⟨he1, hb1⟩; obtain rfl := he1; have HB1 := Lib.hid hb1; clear hb1)
    go_ret3
    exact ⟨none, 0, 0, by rw [HJ.out]; rfl, by rw [HJ.out]; exact .inl ⟨rfl, none, 0, rfl⟩, HB1.out⟩
  | some q =>
    obtain ⟨s, ls⟩ := q
    rw [hw] at HWR
    obtain ⟨hs, hls⟩ := wrt_sound _ _ _ _ _ _ hw
    have hll := wrt_lits _ _ _ _ _ _ hw (by simp)
    rw [List.nil_append] at hs hls
    have hss : (S s).size ≤ 140737488355328 := by rw [S_size, hs]; have := wl_small true l; omega
    have hlz : ∀ i, i < ls.length → (ls.getD i ByteArray.empty).size ≤ 140737488355328 := fun i hi => by
      have : ls.getD i ByteArray.empty ∈ lt l := by
        rw [← hls, List.getD_eq_getElem?_getD, List.getElem?_eq_getElem hi]
        exact List.getElem_mem hi
      have := lt_small l _ this
      omega
    have HJ : Hid (rjoin l = if scanE s ls = 0 ∧ eqL (scanW s ls) l = true then (0, s, ls) else (1, [], [])) := Lib.hid (by unfold rjoin; rw [if_neg hlong, hw])
    have HSC := Lib.hid (fun W v (h : Strs W v ls) => rScan_any (S s) v ls W h hss hlz)
    rw [(ref_scan (L (S s)) ls).1, (ref_scan (L (S s)) ls).2, L_S] at HSC
    have HSM := Lib.hid (samg_any (SizeOf.sizeOf (scanW s ls) + 1) (scanW s ls) l (Nat.lt_succ_self _))
    generalize scanE s ls = sE at *
    generalize scanW s ls = sW at *
    clear hw hs hls hlz
    by_cases hE : sE = 0
    · subst hE
      cases hq : eqL sW l with
      | true =>
        rw [hq] at HSM
        have HJ2 : Hid (rjoin l = (0, s, ls)) := Lib.hid (by rw [HJ.out, if_pos ⟨rfl, hq⟩])
        clear HJ hq
        go_enter Tryd.func32, Tryd.ntmps32
        go_upto_region 4 with (go_at_call 52; refine HWR.out.mono ?_; rintro e w1 ⟨⟨xa, xn, xc, rfl, hr1⟩, hb1⟩; have HR1 := Lib.hid hr1; have HB1 := Lib.hid hb1; clear hr1 hb1)
        go_upto_region 7 with (go_at_call 19; refine (HSC.out _ _ (HR1.out.strs (by omega))).mono ?_; rintro e w2 ⟨a2, n2, c2, rfl, hl2, hb2⟩; have HL2 := Lib.hid hl2; have HB12 := Lib.hid hb2; have HB2 := Lib.hid (HB1.out.trans (hb2.mono HB1.out.size)); clear hl2 hb2)
        go_wp2_with (go_at_call 21; refine (HSM.out w2 _ _ _ _ _ _ _ _ HL2.out (HL.out.on HB2.out) w2 (Below.refl _ _)).mono ?_; rintro e w3 ⟨rfl, hb3⟩; have HB23 := Lib.hid hb3; clear hb3)
        go_ret3
        exact ⟨xa, xn, xc, by rw [HJ2.out]; rfl, by rw [HJ2.out]; exact (HR1.out.strs (by omega)).on (HB12.out.trans (HB23.out.mono HB12.out.size)), (HB2.out.trans (HB23.out.mono HB2.out.size))⟩
      | false =>
        rw [hq] at HSM
        have HJ2 : Hid (rjoin l = (1, [], [])) := Lib.hid (by rw [HJ.out, if_neg (fun h => by rw [h.2] at hq; cases hq)])
        clear HJ hq
        go_enter Tryd.func32, Tryd.ntmps32
        go_upto_region 4 with (go_at_call 52; refine HWR.out.mono ?_; rintro e w1 ⟨⟨xa, xn, xc, rfl, hr1⟩, hb1⟩; have HR1 := Lib.hid hr1; have HB1 := Lib.hid hb1; clear hr1 hb1)
        go_upto_region 7 with (go_at_call 19; refine (HSC.out _ _ (HR1.out.strs (by omega))).mono ?_; rintro e w2 ⟨a2, n2, c2, rfl, hl2, hb2⟩; have HL2 := Lib.hid hl2; have HB12 := Lib.hid hb2; have HB2 := Lib.hid (HB1.out.trans (hb2.mono HB1.out.size)); clear hl2 hb2)
        go_wp2_with (go_at_call 21; refine (HSM.out w2 _ _ _ _ _ _ _ _ HL2.out (HL.out.on HB2.out) w2 (Below.refl _ _)).mono ?_; rintro e w3 ⟨rfl, hb3⟩; have HB23 := Lib.hid hb3; clear hb3)
        go_ret3
        exact ⟨none, 0, 0, by rw [HJ2.out]; rfl, by rw [HJ2.out]; exact .inl ⟨rfl, none, 0, rfl⟩, (HB2.out.trans (HB23.out.mono HB2.out.size))⟩
    · have hEz : ((sE : Int) != 0) = true := by rw [bne_iff_ne]; exact hE
      have HJ2 : Hid (rjoin l = (1, [], [])) := Lib.hid (by rw [HJ.out, if_neg (fun h => hE h.1)])
      clear HJ hE HSM
      go_enter Tryd.func32, Tryd.ntmps32
      go_upto_region 4 with (go_at_call 52; refine HWR.out.mono ?_; rintro e w1 ⟨⟨xa, xn, xc, rfl, hr1⟩, hb1⟩; have HR1 := Lib.hid hr1; have HB1 := Lib.hid hb1; clear hr1 hb1)
      go_upto_region 7 with (go_at_call 19; refine (HSC.out _ _ (HR1.out.strs (by omega))).mono ?_; rintro e w2 ⟨a2, n2, c2, rfl, hl2, hb2⟩; have HL2 := Lib.hid hl2; have HB12 := Lib.hid hb2; have HB2 := Lib.hid (HB1.out.trans (hb2.mono HB1.out.size)); clear hl2 hb2)
      go_wp2_with fail
      go_ret3
      exact ⟨none, 0, 0, by rw [HJ2.out]; rfl, by rw [HJ2.out]; exact .inl ⟨rfl, none, 0, rfl⟩, HB2.out⟩
end Go.Proofs.YtliiapdakojomabDoor

/- The statement LexJoins: the walk. -/
namespace Go.Proofs.YtliiapdakojomabDoor
open Go.RowKit

theorem below_jx {w a b : World} (h : Below w.heap.size w a) (h2 : Below a.heap.size a b) : Below w.heap.size w b := h.trans (h2.mono h.size)
theorem str_refl (x : ByteArray) : (x.toList == x.toList) = true := by simp
set_option maxRecDepth 100000 in
set_option maxHeartbeats 4000000 in
theorem LexJoins_walk (l : List Wd) (a : Option Addr) (n c : Nat) (D : Nat → Prop) (w : World) (he : Env w) (hL : Lies w D a n c l) (hbk : bkL l ≤ 1048576) :
    Calls Tryd.prog 8 #[.slice a n c] w fun e w' => e = .returned (.bool true) ∧ Below w.heap.size w w' := by
  obtain rfl := hL.len
  have HK := Lib.hid (known_any w he)
  have HRJ := Lib.hid (fun W (h : Lies W D a l.length c l) => rJoin_any l a l.length c D W h hbk)
  rw [rjoin_eq] at HRJ
  have HTW := Lib.hid (fun W (h : Below w.heap.size w W) => twin_any (SizeOf.sizeOf l + 1) l (Nat.lt_succ_self _) w D a l.length c hL hbk W h)
  have HJ := Lib.hid (fun W D a n c (h : Lies W D a n c l) (he : Env W) => Join_any l a n c D W h he)
  have HWH := Lib.hid (whole_any (SizeOf.sizeOf l + 1) l (Nat.lt_succ_self _))
  generalize joinE l = jE at *
  generalize S (joinS l) = jS at *
  generalize joinT l = jT at *
  have HT : Hid (∀ v1 v2 W, Strs W v1 jT → Strs W v2 jT → Calls Tryd.prog 22 #[v1, v2] W fun e w' => e = .returned (.bool true) ∧ Below W.heap.size W w') := Lib.hid (fun v1 v2 W h1 h2 => (texts_any v1 v2 jT jT W h1 h2).mono (fun e w' h => ⟨by rw [h.1, decide_eq_true rfl], h.2⟩))
  have HN := Lib.hid num_any
  have HL := Lib.hid hL
  have HE := Lib.hid he
  have hn0 : (0 : Int) ≤ (l.length : Int) := by omega
  clear he hL
  go_enter Tryd.func8, Tryd.ntmps8
  go_upto_region 4 with (go_at_call 9; refine HK.out.mono ?_; rintro e w1 ⟨rfl, hb1⟩; have HB1 := Lib.hid hb1; clear hb1)
  go_upto_region 5 with (go_at_call 32; refine (HRJ.out _ (HL.out.on HB1.out)).mono ?_; rintro e w2 ⟨xa, xn, xc, rfl, hst2, hb2⟩; have HB2 := Lib.hid (below_jx HB1.out hb2); have HST2 := Lib.hid hst2; clear hb2 hst2)
  go_upto_region 6 with (go_at_call 33; refine (HTW.out _ HB2.out).mono ?_; rintro e w3 ⟨g, cp, rfl, htw, hb3⟩; have hcp := htw.len.1; have HTN := Lib.hid htw; have HB23 := Lib.hid hb3; have HB3 := Lib.hid (below_jx HB2.out hb3); clear htw hb3)
  have hcz : (l.length : Int) ≤ (cp : Int) := by omega
  have hcz2 : (l.length : Int) ≤ (l.length : Int) + 1 := by omega
  go_upto_region 7 with (go_at_call 12; refine (HJ.out _ _ _ _ _ HTN.out.lies (HE.out.on HB3.out)).mono ?_; rintro e w4 ⟨vt, rfl, hst4, hb4⟩; have HST4 := Lib.hid hst4; have HB34 := Lib.hid hb4; have HB4 := Lib.hid (below_jx HB3.out hb4); clear hst4 hb4)
  go_upto_region 8 with (go_at_call 34; refine (HWH.out w3 _ _ _ _ _ _ _ HTN.out (HL.out.on HB3.out) w4 HB34.out).mono ?_; rintro e w5 ⟨rfl, hb5⟩; have HB45 := Lib.hid hb5; have HB5 := Lib.hid (below_jx HB4.out hb5); clear hb5)
  have hse := str_refl jS
  go_wp2_with (first | (go_at_call 11; refine (HN.out _ _).mono ?_; rintro e w7 ⟨rfl, hw7⟩; subst w7) | (go_at_call 22; refine (HT.out _ _ _ (((HST2.out.on HB23.out).on HB34.out).on HB45.out) (HST4.out.on HB45.out)).mono ?_; rintro e w6 ⟨rfl, hb6⟩; have HB6 := Lib.hid (below_jx HB5.out hb6); clear hb6))
  go_ret
  exact ⟨rfl, HB6.out⟩
end Go.Proofs.YtliiapdakojomabDoor
