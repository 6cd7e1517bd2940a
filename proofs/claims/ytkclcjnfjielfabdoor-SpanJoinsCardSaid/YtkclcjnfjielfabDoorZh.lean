/- A desk's several. -/
import Derived.Test.YtkclcjnfjielfabDoorZf
import Derived.Deep.LoopGhost
namespace Go.Proofs.YtkclcjnfjielfabDoor
open Go.RowKit

theorem wp_genS {P : Program} {c : Code} {Q : Exit → Act → World → Prop} {a : Act} {W : World} (h : ∀ Y, Y = W → c.wp P Q a Y) : c.wp P Q a W := h W rfl
theorem appIn {ops : Array Oper} {rest : List Oper} {o : Oper} {a : Act} {Q : Exit → Act → World → Prop} (hgd : o.guard = none) (s x : Operand)
    (ho : o.op = .call { callee := .builtin .append, args := #[s, x], argTypes := #[27, 27] })
    {D : Nat} {Pl : Nat → Prop} {w0 : World} {vin vset : Value} {I : List Value} {M : List (List Rg)} {Sx : List Value} {W0 w : World} (hsv : Sev D Pl w0 vin vset I M Sx W0 w) (hs : a.eval s = vin) (hx : a.eval x = .slice (some ⟨w.heap.size, 0, none⟩) 1 1)
    (hlen : I.length + 1 ≤ 5864062014805)
    (h : ∀ g cap w', w'.cell? ⟨D, 2, none⟩ = some vin → w'.frozen? ⟨D, 2, none⟩ = false → Hid (Sev D Pl w0 (.slice (some ⟨g, 0, none⟩) (I.length + 1) cap) vset (I ++ [nilV]) (M ++ [[]]) Sx W0 (w'.setCell ⟨D, 2, none⟩ (.slice (some ⟨g, 0, none⟩) (I.length + 1) cap))) → wpList Tryd.prog ops Q rest (a.put o.dst (.slice (some ⟨g, 0, none⟩) (I.length + 1) cap)) w') : wpList Tryd.prog ops Q (o :: rest) a (w.alloc (.cells #[.slice none 0 0] 25)) := by
  obtain ⟨i0, hi, hz0, hz1, hz2⟩ := info_parts Tryd.infoRgs
  have hA := hsv.on ((Below.refl _ _).alloc (Nat.le_refl _) (.cells #[.slice none 0 0] 25))
  refine wpList_append_lies _ hgd s x 27 ho (D + 1) 25 i0 (.slice none 0 0) 1 24 Tryd.underlying27 hi hz0 hz1 hz2 rfl (by decide) vin I.length I hs hA.desk.rin ⟨w.heap.size, 0, none⟩ 1 1 [.slice none 0 0] hx rfl ?_ ?_ (by decide) (by unfold maxLen; omega) (by omega) hA.desk.base _ rfl ?_
  · intro j u hj
    match j, hj with
    | 0, hj => simp at hj; subst hj; simp [Addr.add]
    | (j + 1), hj => simp at hj
  · intro u hu; simp at hu; subst hu; rfl
  · intro g cap w' ho' hg hat _
    obtain ⟨k1, k2, k3⟩ := hA.more ho' hg (by rcases hat with h1 | h1; exact .inl h1; exact .inr (Nat.le_of_eq h1.symm))
    exact h g cap w' k1 k2 (Lib.hid k3)
/-- What has been laid for the sets ahead of number j. -/
def DoneS (ll : List (List Rg)) (I : List Value) (M : List (List Rg)) (Sx : List Value) (j : Nat) : Prop :=
  (∀ i, i < j → ∃ g n cap, I.getD i nilV = .slice (some ⟨g, 0, none⟩) n cap ∧ M.getD i [] = laidG markR (ll.getD i []) n ∧ Sx.getD i nilV = .slice (some ⟨g, 0, none⟩) (ll.getD i []).length cap ∧ (ll.getD i []).length + 4 ≤ n ∧ n ≤ cap ∧ n ≤ 3000000) ∧ ∀ i, j ≤ i → Sx.getD i nilV = nilV
theorem DoneS.next {ll : List (List Rg)} {I : List Value} {M : List (List Rg)} {Sx : List Value} {j g n cap : Nat} (h : DoneS ll I M Sx j) (hI : j < I.length) (hM : j < M.length) (hS : j < Sx.length) (h1 : (ll.getD j []).length + 4 ≤ n) (h2 : n ≤ cap) (h3 : n ≤ 3000000) :
    DoneS ll (I.set j (.slice (some ⟨g, 0, none⟩) n cap)) (M.set j (laidG markR (ll.getD j []) n)) (Sx.set j (.slice (some ⟨g, 0, none⟩) (ll.getD j []).length cap)) (j + 1) := by
  refine ⟨fun i hi => ?_, fun i hi => ?_⟩
  · by_cases hij : i = j
    · subst hij
      exact ⟨g, n, cap, getD_set_eq _ _ _ _ hI, getD_set_eq _ _ _ _ hM, getD_set_eq _ _ _ _ hS, h1, h2, h3⟩
    · obtain ⟨g', n', cap', a1, a2, a3, a4⟩ := h.1 i (by omega)
      exact ⟨g', n', cap', by rw [getD_set_ne' _ _ _ _ _ (Ne.symm hij)]; exact a1, by rw [getD_set_ne' _ _ _ _ _ (Ne.symm hij)]; exact a2, by rw [getD_set_ne' _ _ _ _ _ (Ne.symm hij)]; exact a3, a4⟩
  · rw [getD_set_ne' _ _ _ _ _ (by omega)]
    exact h.2 i (by omega)
abbrev s12 (D g i b o : Nat) (u1 u2 u3 : Value) : World → Prop := fun X => X.cell? ⟨D, 2, none⟩ = some u1 ∧ X.cell? ⟨g, i, none⟩ = some u2 ∧ X.cell? ⟨b, o, none⟩ = some u3
abbrev s13 (D g i b o : Nat) (u0 u1 u2 u3 : Value) : World → Prop := fun X => X.cell? ⟨D, 3, none⟩ = some u0 ∧ X.cell? ⟨D, 2, none⟩ = some u1 ∧ X.cell? ⟨g, i, none⟩ = some u2 ∧ X.cell? ⟨b, o, none⟩ = some u3
theorem made_nil (n : Nat) : (madeCells #[Value.slice none 0 0] n).toList = List.replicate n (Value.slice none 0 0) := toList_madeCells_one _ n
theorem rin_form {B : Nat} {v : Value} {G : List Value} {w : World} (h : w.ownsRow B 25 1 v G.length G) : ∃ ao cap, v = .slice ao G.length cap ∧ (0 < G.length → ∃ g, ao = some ⟨g, 0, none⟩) := by
  rcases h.2 with ⟨rfl, h0⟩ | ⟨g, cap, cur, rfl, hB, hg, rest⟩
  · exact ⟨none, 0, by rw [h0], fun h => by omega⟩
  · exact ⟨_, cap, rfl, fun _ => ⟨g, rfl⟩⟩
structure SevEnd (D : Nat) (Pl : Nat → Prop) (w0 : World) (ll : List (List Rg)) (vin : Value) (gs ns cs : Nat) (I : List Value) (M : List (List Rg)) (Sx : List Value) (W0 w : World) : Prop where
  sev : Sev D Pl w0 vin (.slice (some ⟨gs, 0, none⟩) ns cs) I M Sx W0 w
  done : DoneS ll I M Sx ll.length
  lI : ll.length ≤ I.length
  bI : I.length ≤ 1000000
  lS : Sx.length = ns
  nS : ll.length + 4 ≤ ns
  bS : ns ≤ 3000000
  cS : ns ≤ cs
set_option maxRecDepth 100000 in
set_option maxHeartbeats 8000000 in
theorem several_any {D : Nat} {Pl : Nat → Prop} {vin vset vl : Value} {I : List Value} {M : List (List Rg)} {Sx : List Value} {ll : List (List Rg)} {W0 w : World} (hd : DeskS D vin vset I M Sx W0 w) (hPl : Pl = PlS vin vset I) (hD : D = W0.heap.size) (hl : Sets W0 vl ll) (hll : ll.length ≤ 100000) (hle : ∀ i, i < ll.length → (ll.getD i []).length ≤ 1000000) (hI : I.length ≤ 1000000) (hS : Sx.length ≤ 3000000) :
    Calls Tryd.prog 26 #[.pointer (some ⟨D, 0, none⟩), vl] w fun e w' => ∃ vin' gs ns cs, e = .returned (.slice (some ⟨gs, 0, none⟩) ll.length cs) ∧ ∃ I' M' Sx', SevEnd D Pl w ll vin' gs ns cs I' M' Sx' W0 w' := by
  obtain ⟨al, cl, hvl, hcl⟩ := hl.form
  have HL := Lib.hid hcl
  have HLE := Lib.hid hle
  subst hvl
  have HV : Hid (Sev D Pl w vin vset I M Sx W0 w) := Lib.hid ⟨hd, FarS.refl _ _ _, fun k hk => .inl (by rw [hPl]; exact hk)⟩
  have HDW := Lib.hid hD
  clear hd hPl hl hcl hle hD
  obtain ⟨i0, hi, hz0, hz1, hz2⟩ := info_parts Tryd.infoRgs
  go_enter Tryd.func26, Tryd.ntmps26
  go_wp2_with fail
  go_loopg [7] ll.length (fun gg s7 wr => ∃ (ai : Option Addr) (ci : Nat) (I : List Value) (M : List (List Rg)) (X : World), X = wr ∧ I.length ≤ 1000000 ∧ ll.length - I.length ≤ gg ∧ X.cell? ⟨D, 2, none⟩ = some (.slice ai I.length ci) ∧ Hid (Sev D Pl w (.slice ai I.length ci) vset I M Sx W0 X))
  case atStart =>
    obtain ⟨ai, ci, hvi, _⟩ := rin_form HV.out.desk.rin
    subst hvi
    exact ⟨ai, ci, I, M, _, rfl, hI, by omega, HV.out.desk.c2, HV⟩
  case round =>
    clear HV hI I M
    obtain ⟨ai, ci, I, M, X, hX, hI, hgg, hc2, HV⟩ := hrel
    subst hX
    by_cases hlt : I.length < ll.length
    · have hltz : (I.length : Int) < (ll.length : Int) := by omega
      go_wp2_with (at_builtin; refine appIn rfl _ _ rfl HV.out rfl rfl (by omega) ?_)
      intro g cp w2 hc hf HV2
      go_wp2_with fail
      go_roundg (ll.length - (I.length + 1))
      case measure => omega
      case rel => exact ⟨some ⟨g, 0, none⟩, cp, I ++ [nilV], M ++ [[]], _, rfl, by rw [List.length_append, List.length_singleton]; omega, by rw [List.length_append, List.length_singleton]; omega, by rw [List.length_append]; exact HV2.out.desk.c2, by rw [List.length_append]; exact HV2⟩
    · have hltz : ¬ (I.length : Int) < (ll.length : Int) := by omega
      have hlI : ll.length ≤ I.length := by omega
      obtain ⟨asx, cs0, hvs, hvs2⟩ := rin_form HV.out.desk.rset
      subst hvs
      have hc3 := HV.out.desk.c3
      clear hlt
      by_cases hcz : Sx.length < ll.length + 4
      · have hczz : (Sx.length : Int) < (ll.length : Int) + 4 := by omega
        obtain ⟨n, hn⟩ : ∃ n, n = 2 * ll.length + 40 := ⟨_, rfl⟩
        have hnz : (2 : Int) * (ll.length : Int) + 40 = (n : Int) := by omega
        have hn4 : ll.length + 4 ≤ n := by omega
        have hn3 : n ≤ 3000000 := by omega
        have HN := Lib.hid hn
        clear hn hvs2
        have HB : Hid (D + 1 ≤ X.heap.size) := Lib.hid HV.out.desk.base
        go_wp2_with (at_make; refine wpList_make_full _ rfl _ _ 27 rfl (D + 1) 25 i0 (.slice none 0 0) 1 Tryd.underlying27 hi hz0 hz1 _ _ _ _ n rfl rfl (by go_arith) (by go_arith) (by rw [hz2]; omega) (by unfold maxLen; omega) HB.out ?_)
        intro w1 hr1 hg1
        have hr2 : w1.ownsRow (D + 1) 25 1 (.slice (some ⟨X.heap.size, 0, none⟩) n n) n (List.replicate n nilV) := by rw [← made_nil]; simpa using hr1
        obtain ⟨g, hg⟩ : ∃ g, g = X.heap.size := ⟨_, rfl⟩
        rw [← hg] at hr2 ⊢
        obtain ⟨hc, hf, hv2⟩ := HV.out.made hg (List.replicate n nilV) (by simp) hr2 hg1
        have HV2 := Lib.hid hv2
        obtain ⟨Sy, hSy⟩ : ∃ Sy, Sy = List.replicate n nilV := ⟨_, rfl⟩
        have hSl : Sy.length = n := by rw [hSy]; simp
        rw [← hSy] at HV2
        have hcs : n ≤ n := Nat.le_refl _
        have hc3n : (w1.setCell ⟨D, 3, none⟩ (.slice (some ⟨g, 0, none⟩) n n)).cell? ⟨D, 3, none⟩ = some (.slice (some ⟨g, 0, none⟩) n n) := HV2.out.desk.c3
        clear hr1 hg1 hr2 hg hv2 hSy HV hc2 hc3
        go_wp2_with fail
        go_loopg [5] n (fun gg s5 wr => ∃ (i : Nat) (Sz : List Value) (Y : World), Y = wr ∧ i ≤ n ∧ n - i ≤ gg ∧ s5 = .int .i64 i ∧ Hid (Sz.length = n) ∧ Y.cell? ⟨D, 3, none⟩ = some (.slice (some ⟨g, 0, none⟩) n n) ∧ Hid (∀ j, j < i → Sz.getD j nilV = nilV) ∧ Hid (Sev D Pl w (.slice ai I.length ci) (.slice (some ⟨g, 0, none⟩) n n) I M Sz W0 Y))
        case atStart => exact ⟨0, Sy, _, rfl, Nat.zero_le _, by omega, rfl, Lib.hid hSl, HV2.out.desk.c3, Lib.hid (fun j hj => by omega), HV2⟩
        case round =>
          clear HV2 hc hf hc3n hSl
          obtain ⟨i, Sz, Y, hY, hin, hgg2, rfl, HSZ, hcY, HZ, HV⟩ := hrel
          subst hY
          by_cases hin2 : i < n
          · have hinz : (i : Int) < (n : Int) := by omega
            have hr := HV.out.desk.rset
            rw [HSZ.out] at hr
            have cgi : ∃ u, Y.cell? ⟨g, i, none⟩ = some u := ⟨_, by rw [hr.cellAt i (by omega)]; exact List.getElem?_eq_getElem (by rw [HSZ.out]; exact hin2)⟩
            obtain ⟨u1, cgi⟩ := cgi
            have fgi : Y.frozen? ⟨g, i, none⟩ = false := hr.frozenAt i
            have HP := Lib.hid (HV.out.put HSZ.out i nilV)
            clear hr
            go_wp2_with fail
            go_roundg (n - (i + 1))
            case measure => omega
            case rel =>
              refine ⟨i + 1, Sz.set i nilV, _, rfl, by omega, by omega, by go_num, Lib.hid (by rw [List.length_set]; exact HSZ.out), HP.out.desk.c3, Lib.hid (fun j hj => ?_), HP⟩
              by_cases hji : j = i
              · subst hji; rw [getD_set_eq _ _ _ _ (by rw [HSZ.out]; exact hin2)]
              · rw [getD_set_ne' _ _ _ _ _ (Ne.symm hji)]; exact HZ.out j (by omega)
          · have hinz : ¬ (i : Int) < (n : Int) := by omega
            have HDN : Hid (DoneS ll I M Sz 0) := Lib.hid ⟨fun j hj => by omega, fun j _ => by
              by_cases hj : j < i
              · exact HZ.out j hj
              · rw [List.getD_eq_getElem?_getD, List.getElem?_eq_none (by rw [HSZ.out]; omega)]; rfl⟩
            clear HZ hin2
            go_wp2_with fail
            go_loopg [6] ll.length (fun gg s6 wr => ∃ (k : Nat) (I2 : List Value) (M2 : List (List Rg)) (Sz : List Value) (Z : World), Z = wr ∧ k ≤ ll.length ∧ ll.length - k ≤ gg ∧ s6 = .int .i64 k ∧ Hid (I2.length = I.length) ∧ Hid (Sz.length = n) ∧ Hid (DoneS ll I2 M2 Sz k) ∧ Hid (Sev D Pl w (.slice ai I.length ci) (.slice (some ⟨g, 0, none⟩) n n) I2 M2 Sz W0 Z))
            case atStart => exact ⟨0, I, M, Sz, _, rfl, Nat.zero_le _, by omega, rfl, Lib.hid rfl, HSZ, HDN, HV⟩
            case round =>
              clear HV HDN HSZ hcY
              obtain ⟨k, I2, M2, Sz, Z, hZ, hk, hgg3, rfl, HI2, HSZ, HDN, HV⟩ := hrel
              subst hZ
              by_cases hkl : k < ll.length
              · have hkz : (k : Int) < (ll.length : Int) := by omega
                have hk0 : (0 : Int) ≤ (k : Int) := by omega
                have hkI : (k : Int) < (I.length : Int) := by omega
                have hkn : (k : Int) < (n : Int) := by omega
                have hme : ll.length - (k + 1) < ll.length - k := by omega
                obtain ⟨gi, hgi⟩ : ∃ gi, ai = some ⟨gi, 0, none⟩ := by
                  obtain ⟨_, _, hv, hx⟩ := rin_form HV.out.desk.rin
                  simp only [Value.slice.injEq] at hv
                  obtain ⟨rfl, _, _⟩ := hv
                  exact hx (by rw [HI2.out]; omega)
                subst hgi
                obtain ⟨b, off, f, hal, hfl⟩ := HL.out (by omega)
                subst hal
                obtain ⟨fc, fr⟩ := hfl k hkl
                obtain ⟨af, cf, hfs, _⟩ := fr.shape
                rw [hfs] at fc
                have hbw : Below W0.heap.size W0 Z := by have := HV.out.desk.below; rw [HDW.out] at this; exact this
                have cbl := cellOn fc hbw
                have HRF : Hid (Rgs Z.drew (.slice af (ll.getD k []).length cf) (ll.getD k [])) := Lib.hid (by rw [hfs] at fr; exact (fr.on hbw).on (Below.refl _ _).drew)
                have hbl : b < W0.heap.size := block_lt_of_cell fc
                have hlk : (ll.getD k []).length ≤ 1000000 := HLE.out k hkl
                have HV3 := Lib.hid (HV.out.on (Below.refl _ _).drew)
                have hkI2 : k < I2.length := by rw [HI2.out]; omega
                have hri := HV.out.desk.rin
                rw [HI2.out] at hri
                have cgk : Z.cell? ⟨gi, k, none⟩ = some (I2.getD k nilV) := by rw [hri.cellAt k (by omega), List.getD_eq_getElem?_getD, List.getElem?_eq_getElem hkI2]; rfl
                have hS : s12 D gi k b (off + k) (.slice (some ⟨gi, 0, none⟩) I.length ci) (I2.getD k nilV) (.slice af (ll.getD k []).length cf) Z.drew := ⟨HV.out.desk.c2, cgk, cbl⟩
                have HLAY := Lib.hid (lay_any (HV3.out.desk.pls k hkI2).1 HV3.out.desk.base HRF.out hlk (HV3.out.desk.pls k hkI2).2)
                have HLK := Lib.hid hkI2
                clear hfl fc fr hfs hbw cbl hri cgk hkI2 HV
                generalize hlet : ll.getD k [] = l at *
                have HLET := Lib.hid hlet
                clear hlet
                generalize hpi : I2.getD k nilV = pi at *
                have HPI := Lib.hid hpi
                clear hpi
                go_wp2_with fail
                refine wp_region_M 18 (s12 D gi k b (off + k) (.slice (some ⟨gi, 0, none⟩) I.length ci) pi (.slice af l.length cf)) (by kernel_rfl) ?_
                refine wpAnyM_take (i := 0) (v := ?_) rfl (by kernel_rfl) (by kernel_rfl) (by kernel_rfl) (by kernel_rfl) (fun _ _ _ h => h) (Or.inl ⟨by rfl, ?_⟩) hS ?_
                rotate_left
                · (intro X hX; (try dsimp only at hX); go_simp; try (with_reducible rfl))
                (try simp only [Act.put])
                refine wpAnyM_take (i := 1) (v := ?_) rfl (by kernel_rfl) (by kernel_rfl) (by kernel_rfl) (by kernel_rfl) (fun _ _ _ h => h) (Or.inl ⟨by rfl, ?_⟩) hS ?_
                rotate_left
                · (intro X hX; (try dsimp only at hX); go_simp; try (with_reducible rfl))
                (try simp only [Act.put])
                refine wpAnyM_take (i := 2) (v := ?_) rfl (by kernel_rfl) (by kernel_rfl) (by kernel_rfl) (by kernel_rfl) (fun _ _ _ h => h) (Or.inl ⟨by rfl, ?_⟩) hS ?_
                rotate_left
                · (intro X hX; (try dsimp only at hX); go_simp; try (with_reducible rfl))
                (try simp only [Act.put])
                refine wpAnyM_take (i := 3) (v := ?_) rfl (by kernel_rfl) (by kernel_rfl) (by kernel_rfl) (by kernel_rfl) (fun _ _ _ h => h) (Or.inl ⟨by rfl, ?_⟩) hS ?_
                rotate_left
                · (intro X hX; (try dsimp only at hX); go_simp; try (with_reducible rfl))
                (try simp only [Act.put])
                refine wpAnyM_take (i := 4) (v := ?_) rfl (by kernel_rfl) (by kernel_rfl) (by kernel_rfl) (by kernel_rfl) (fun _ _ _ h => h) (Or.inl ⟨by rfl, ?_⟩) hS ?_
                rotate_left
                · (intro X hX; (try dsimp only at hX); go_simp; try (with_reducible rfl))
                (try simp only [Act.put])
                refine wpAnyM_take (i := 5) (v := ?_) rfl (by kernel_rfl) (by kernel_rfl) (by kernel_rfl) (by kernel_rfl) (fun _ _ _ h => h) (Or.inl ⟨by rfl, ?_⟩) hS ?_
                rotate_left
                · (intro X hX; (try dsimp only at hX); go_simp; try (with_reducible rfl))
                (try simp only [Act.put])
                refine wpAnyM_take (i := 6) (v := ?_) rfl (by kernel_rfl) (by kernel_rfl) (by kernel_rfl) (by kernel_rfl) (fun _ _ _ h => h) (Or.inl ⟨by rfl, ?_⟩) hS ?_
                rotate_left
                · (intro X hX; (try dsimp only at hX); go_simp; try (with_reducible rfl))
                (try simp only [Act.put])
                refine wpAnyM_take (i := 7) (v := ?_) rfl (by kernel_rfl) (by kernel_rfl) (by kernel_rfl) (by kernel_rfl) (fun _ _ _ h => h) (Or.inl ⟨by rfl, ?_⟩) hS ?_
                rotate_left
                · (intro X hX; (try dsimp only at hX); go_simp; try (with_reducible rfl))
                (try simp only [Act.put])
                refine wpAnyM_take (i := 8) (v := ?_) rfl (by kernel_rfl) (by kernel_rfl) (by kernel_rfl) (by kernel_rfl) (fun _ _ _ h => h) (Or.inl ⟨by rfl, ?_⟩) hS ?_
                rotate_left
                · (intro X hX; (try dsimp only at hX); go_simp; try (with_reducible rfl))
                (try simp only [Act.put])
                refine wpAnyM_take (i := 9) (v := ?_) rfl (by kernel_rfl) (by kernel_rfl) (by kernel_rfl) (by kernel_rfl) (fun _ _ _ h => h) (Or.inl ⟨by rfl, ?_⟩) hS ?_
                rotate_left
                · (intro X hX; (try dsimp only at hX); go_simp; try (with_reducible rfl))
                (try simp only [Act.put])
                refine wpAnyM_take (i := 10) (v := ?_) rfl (by kernel_rfl) (by kernel_rfl) (by kernel_rfl) (by kernel_rfl) (fun _ _ _ h => h) (Or.inl ⟨by rfl, ?_⟩) hS ?_
                rotate_left
                · (intro X hX; (try dsimp only at hX); go_simp; try (with_reducible rfl))
                (try simp only [Act.put])
                refine wpAnyM_take (i := 11) (v := ?_) rfl (by kernel_rfl) (by kernel_rfl) (by kernel_rfl) (by kernel_rfl) (fun _ _ _ h => h) (Or.inl ⟨by rfl, ?_⟩) hS ?_
                rotate_left
                · (intro X hX; (try dsimp only at hX); go_simp; try (with_reducible rfl))
                (try simp only [Act.put])
                refine wpAnyM_take (i := 12) (v := ?_) rfl (by kernel_rfl) (by kernel_rfl) (by kernel_rfl) (by kernel_rfl) (fun _ _ _ h => h) (Or.inl ⟨by rfl, ?_⟩) hS ?_
                rotate_left
                · (intro X hX; (try dsimp only at hX); go_simp; try (with_reducible rfl))
                (try simp only [Act.put])
                refine wpAnyM_take (i := 13) (v := ?_) rfl (by kernel_rfl) (by kernel_rfl) (by kernel_rfl) (by kernel_rfl) (fun _ _ _ h => h) (Or.inl ⟨by rfl, ?_⟩) hS ?_
                rotate_left
                · (intro X hX; (try dsimp only at hX); go_simp; try (with_reducible rfl))
                (try simp only [Act.put])
                refine wpAnyM_take (i := 14) (v := ?_) rfl (by kernel_rfl) (by kernel_rfl) (by kernel_rfl) (by kernel_rfl) (fun _ _ _ h => h) (Or.inl ⟨by rfl, ?_⟩) hS ?_
                rotate_left
                · (intro X hX; (try dsimp only at hX); go_simp; try (with_reducible rfl))
                (try simp only [Act.put])
                refine wpAnyM_take (i := 15) (v := ?_) rfl (by kernel_rfl) (by kernel_rfl) (by kernel_rfl) (by kernel_rfl) (fun _ _ _ h => h) (Or.inl ⟨by rfl, ?_⟩) hS ?_
                rotate_left
                · (intro X hX; (try dsimp only at hX); go_simp; try (with_reducible rfl))
                (try simp only [Act.put])
                refine wpAnyM_one (i := 16) (by kernel_rfl) rfl (fun K hK => ?_)
                go_simp
                refine HLAY.out.mono ?_
                rintro e w4 ⟨gp, np, cp, rfl, hLd, hnp⟩
                have hlaid : Laid (D + 1) (I2.getD k nilV).ownBlock l gp np cp Z.drew w4 := by rw [HPI.out]; exact hLd
                obtain ⟨⟨q1, q2, q3, q4, q5⟩, hsv⟩ := HV3.out.laid HI2.out k HLK.out hlaid hnp
                rw [HPI.out] at q1
                have q6 : w4.cell? ⟨b, off + k, none⟩ = some (.slice af l.length cf) := by
                  rw [q5.cell (p := ⟨b, off + k, none⟩) (by rw [HDW.out]; exact hbl), ← HV3.out.desk.below.cell (p := ⟨b, off + k, none⟩) (by rw [HDW.out]; exact hbl)]
                  exact hS.2.2
                obtain ⟨hnc, hlc⟩ := laid_caps hLd
                have hln := hLd.len
                have HSV := Lib.hid hsv
                have hlcz : (l.length : Int) ≤ (cp : Int) := by omega
                clear hlaid hLd hsv
                dsimp only
                have hS4 : s12 D gi k b (off + k) (.slice (some ⟨gi, 0, none⟩) I.length ci) pi (.slice af l.length cf) w4 := ⟨q3, q1, q6⟩
                refine hK.out _ _ (fun _ => hS4) ?_
                clear hK K
                (try simp only [Act.put])
                refine wpAnyM_take (i := 17) (v := ?_) rfl (by kernel_rfl) (by kernel_rfl) (by kernel_rfl) (by kernel_rfl) (fun _ _ _ h => h) (Or.inl ⟨by rfl, ?_⟩) hS4 ?_
                rotate_left
                · (intro X hX; (try dsimp only at hX); go_simp; try (with_reducible rfl))
                (try simp only [Act.put])
                refine wpAnyM_one (i := 18) (by kernel_rfl) rfl (fun K hK => ?_)
                go_simp
                refine hK.out _ _ (fun h => absurd rfl h) ?_
                clear hK K
                refine wpAnyM_done (by kernel_rfl) ?_ _
                go_wp2_with fail
                refine wp_genS (fun Y5 hY5 => ?_)
                rw [← hY5] at HSV
                have q7 : Y5.cell? ⟨b, off + k, none⟩ = some (.slice af l.length cf) := by
                  rw [HSV.out.desk.below.cell (p := ⟨b, off + k, none⟩) (by rw [HDW.out]; exact hbl), ← q5.cell (p := ⟨b, off + k, none⟩) (by rw [HDW.out]; exact hbl)]
                  exact q6
                have q8 : Y5.cell? ⟨gi, k, none⟩ = some (.slice (some ⟨gp, 0, none⟩) np cp) := by
                  rw [hY5, World.cell?_setCell_same' _ _ _ (by rw [q1]; rfl)]
                have hS5 : s13 D gi k b (off + k) (.slice (some ⟨g, 0, none⟩) n n) (.slice (some ⟨gi, 0, none⟩) I.length ci) (.slice (some ⟨gp, 0, none⟩) np cp) (.slice af l.length cf) Y5.drew := ⟨HSV.out.desk.c3, HSV.out.desk.c2, q8, q7⟩
                have hrs := HSV.out.desk.rset
                rw [HSZ.out] at hrs
                have c9 : ∃ u, Y5.drew.cell? ⟨g, k, none⟩ = some u := ⟨_, (hrs.cellAt k (by omega)).trans (List.getElem?_eq_getElem (by rw [HSZ.out]; omega))⟩
                obtain ⟨u9, c9⟩ := c9
                have f9 : Y5.drew.frozen? ⟨g, k, none⟩ = false := hrs.frozenAt k
                have HSV6 := Lib.hid (HSV.out.on (Below.refl _ _).drew)
                clear hY5 q1 q2 q3 q4 q5 q6 q7 q8 hrs hS hS4 HV3 HLAY HSV
                refine wp_region_M 19 (s13 D gi k b (off + k) (.slice (some ⟨g, 0, none⟩) n n) (.slice (some ⟨gi, 0, none⟩) I.length ci) (.slice (some ⟨gp, 0, none⟩) np cp) (.slice af l.length cf)) (by kernel_rfl) ?_
                refine wpAnyM_take (i := 0) (v := ?_) rfl (by kernel_rfl) (by kernel_rfl) (by kernel_rfl) (by kernel_rfl) (fun _ _ _ h => h) (Or.inl ⟨by rfl, ?_⟩) hS5 ?_
                rotate_left
                · (intro X hX; (try dsimp only at hX); go_simp; try (with_reducible rfl))
                (try simp only [Act.put])
                refine wpAnyM_take (i := 1) (v := ?_) rfl (by kernel_rfl) (by kernel_rfl) (by kernel_rfl) (by kernel_rfl) (fun _ _ _ h => h) (Or.inl ⟨by rfl, ?_⟩) hS5 ?_
                rotate_left
                · (intro X hX; (try dsimp only at hX); go_simp; try (with_reducible rfl))
                (try simp only [Act.put])
                refine wpAnyM_take (i := 2) (v := ?_) rfl (by kernel_rfl) (by kernel_rfl) (by kernel_rfl) (by kernel_rfl) (fun _ _ _ h => h) (Or.inl ⟨by rfl, ?_⟩) hS5 ?_
                rotate_left
                · (intro X hX; (try dsimp only at hX); go_simp; try (with_reducible rfl))
                (try simp only [Act.put])
                refine wpAnyM_take (i := 3) (v := ?_) rfl (by kernel_rfl) (by kernel_rfl) (by kernel_rfl) (by kernel_rfl) (fun _ _ _ h => h) (Or.inl ⟨by rfl, ?_⟩) hS5 ?_
                rotate_left
                · (intro X hX; (try dsimp only at hX); go_simp; try (with_reducible rfl))
                (try simp only [Act.put])
                refine wpAnyM_take (i := 4) (v := ?_) rfl (by kernel_rfl) (by kernel_rfl) (by kernel_rfl) (by kernel_rfl) (fun _ _ _ h => h) (Or.inl ⟨by rfl, ?_⟩) hS5 ?_
                rotate_left
                · (intro X hX; (try dsimp only at hX); go_simp; try (with_reducible rfl))
                (try simp only [Act.put])
                refine wpAnyM_take (i := 5) (v := ?_) rfl (by kernel_rfl) (by kernel_rfl) (by kernel_rfl) (by kernel_rfl) (fun _ _ _ h => h) (Or.inl ⟨by rfl, ?_⟩) hS5 ?_
                rotate_left
                · (intro X hX; (try dsimp only at hX); go_simp; try (with_reducible rfl))
                (try simp only [Act.put])
                refine wpAnyM_take (i := 6) (v := ?_) rfl (by kernel_rfl) (by kernel_rfl) (by kernel_rfl) (by kernel_rfl) (fun _ _ _ h => h) (Or.inl ⟨by rfl, ?_⟩) hS5 ?_
                rotate_left
                · (intro X hX; (try dsimp only at hX); go_simp; try (with_reducible rfl))
                (try simp only [Act.put])
                refine wpAnyM_take (i := 7) (v := ?_) rfl (by kernel_rfl) (by kernel_rfl) (by kernel_rfl) (by kernel_rfl) (fun _ _ _ h => h) (Or.inl ⟨by rfl, ?_⟩) hS5 ?_
                rotate_left
                · (intro X hX; (try dsimp only at hX); go_simp; try (with_reducible rfl))
                (try simp only [Act.put])
                refine wpAnyM_take (i := 8) (v := ?_) rfl (by kernel_rfl) (by kernel_rfl) (by kernel_rfl) (by kernel_rfl) (fun _ _ _ h => h) (Or.inl ⟨by rfl, ?_⟩) hS5 ?_
                rotate_left
                · (intro X hX; (try dsimp only at hX); go_simp; try (with_reducible rfl))
                (try simp only [Act.put])
                refine wpAnyM_take (i := 9) (v := ?_) rfl (by kernel_rfl) (by kernel_rfl) (by kernel_rfl) (by kernel_rfl) (fun _ _ _ h => h) (Or.inl ⟨by rfl, ?_⟩) hS5 ?_
                rotate_left
                · (intro X hX; (try dsimp only at hX); go_simp; try (with_reducible rfl))
                (try simp only [Act.put])
                refine wpAnyM_take (i := 10) (v := ?_) rfl (by kernel_rfl) (by kernel_rfl) (by kernel_rfl) (by kernel_rfl) (fun _ _ _ h => h) (Or.inl ⟨by rfl, ?_⟩) hS5 ?_
                rotate_left
                · (intro X hX; (try dsimp only at hX); go_simp; try (with_reducible rfl))
                (try simp only [Act.put])
                refine wpAnyM_take (i := 11) (v := ?_) rfl (by kernel_rfl) (by kernel_rfl) (by kernel_rfl) (by kernel_rfl) (fun _ _ _ h => h) (Or.inl ⟨by rfl, ?_⟩) hS5 ?_
                rotate_left
                · (intro X hX; (try dsimp only at hX); go_simp; try (with_reducible rfl))
                (try simp only [Act.put])
                refine wpAnyM_take (i := 12) (v := ?_) rfl (by kernel_rfl) (by kernel_rfl) (by kernel_rfl) (by kernel_rfl) (fun _ _ _ h => h) (Or.inl ⟨by rfl, ?_⟩) hS5 ?_
                rotate_left
                · (intro X hX; (try dsimp only at hX); go_simp; try (with_reducible rfl))
                (try simp only [Act.put])
                refine wpAnyM_take (i := 13) (v := ?_) rfl (by kernel_rfl) (by kernel_rfl) (by kernel_rfl) (by kernel_rfl) (fun _ _ _ h => h) (Or.inl ⟨by rfl, ?_⟩) hS5 ?_
                rotate_left
                · (intro X hX; (try dsimp only at hX); go_simp; try (with_reducible rfl))
                (try simp only [Act.put])
                refine wpAnyM_take (i := 14) (v := ?_) rfl (by kernel_rfl) (by kernel_rfl) (by kernel_rfl) (by kernel_rfl) (fun _ _ _ h => h) (Or.inl ⟨by rfl, ?_⟩) hS5 ?_
                rotate_left
                · (intro X hX; (try dsimp only at hX); go_simp; try (with_reducible rfl))
                (try simp only [Act.put])
                refine wpAnyM_take (i := 15) (v := ?_) rfl (by kernel_rfl) (by kernel_rfl) (by kernel_rfl) (by kernel_rfl) (fun _ _ _ h => h) (Or.inl ⟨by rfl, ?_⟩) hS5 ?_
                rotate_left
                · (intro X hX; (try dsimp only at hX); go_simp; try (with_reducible rfl))
                (try simp only [Act.put])
                refine wpAnyM_take (i := 16) (v := ?_) rfl (by kernel_rfl) (by kernel_rfl) (by kernel_rfl) (by kernel_rfl) (fun _ _ _ h => h) (Or.inl ⟨by rfl, ?_⟩) hS5 ?_
                rotate_left
                · (intro X hX; (try dsimp only at hX); go_simp; try (with_reducible rfl))
                (try simp only [Act.put])
                refine wpAnyM_take (i := 17) (v := ?_) rfl (by kernel_rfl) (by kernel_rfl) (by kernel_rfl) (by kernel_rfl) (fun _ _ _ h => h) (Or.inl ⟨by rfl, ?_⟩) hS5 ?_
                rotate_left
                · (intro X hX; (try dsimp only at hX); go_simp; try (with_reducible rfl))
                (try simp only [Act.put])
                refine wpAnyM_take (i := 18) (v := ?_) rfl (by kernel_rfl) (by kernel_rfl) (by kernel_rfl) (by kernel_rfl) (fun _ _ _ h => h) (Or.inl ⟨by rfl, ?_⟩) hS5 ?_
                rotate_left
                · (intro X hX; (try dsimp only at hX); go_simp; try (with_reducible rfl))
                (try simp only [Act.put])
                refine wpAnyM_one (i := 19) (by kernel_rfl) rfl (fun K hK => ?_)
                go_simp
                refine hK.out _ _ (fun h => absurd rfl h) ?_
                clear hK K
                refine wpAnyM_done (by kernel_rfl) ?_ _
                have HP := Lib.hid (HSV6.out.put HSZ.out k (.slice (some ⟨gp, 0, none⟩) l.length cp))
                go_wp2_with fail
                go_roundg (ll.length - (k + 1))
                case measure => exact Nat.lt_of_lt_of_le hme hgg3
                case rel =>
                  refine ⟨k + 1, _, _, _, _, rfl, hkl, Nat.le_refl _, by go_num, Lib.hid (by rw [List.length_set]; exact HI2.out), Lib.hid (by rw [List.length_set]; exact HSZ.out), Lib.hid ?_, HP⟩
                  have := HDN.out.next (g := gp) (n := np) (cap := cp) HLK.out (by rw [← HSV6.out.desk.len.trans (List.length_set ..), List.length_set]; exact HLK.out) (by rw [HSZ.out]; omega) (by rw [HLET.out]; exact hln) hnc hnp
                  rw [HLET.out] at this
                  exact this
              · have hkz : ¬ (k : Int) < (ll.length : Int) := by omega
                have hke : k = ll.length := by omega
                have hc3 := HV.out.desk.c3
                have hlcs : (ll.length : Int) ≤ (n : Int) := by omega
                go_wp2_with fail
                go_ret
                exact ⟨_, g, n, _, rfl, I2, M2, Sz, ⟨HV.out, by rw [← hke]; exact HDN.out, by rw [HI2.out]; omega, by rw [HI2.out]; omega, HSZ.out, hn4, hn3, hcs⟩⟩
      · have hczz : ¬ (Sx.length : Int) < (ll.length : Int) + 4 := by omega
        obtain ⟨g, hg⟩ := hvs2 (by omega)
        subst hg
        have hcs0 : Sx.length ≤ cs0 := by
          rcases HV.out.desk.rset.2 with ⟨h', _⟩ | ⟨g', cap', cur, h', hB, hg, hnc, _⟩
          · simp at h'
          · simp only [Value.slice.injEq, Option.some.injEq, Addr.mk.injEq, and_true, true_and] at h'
            obtain ⟨rfl, rfl⟩ := h'
            exact hnc
        obtain ⟨n, hn⟩ : ∃ n, n = Sx.length := ⟨_, rfl⟩
        have HV2 := HV
        rw [← hn] at HV2 hc3 hczz hcs0
        have hn4 : ll.length + 4 ≤ n := by omega
        have hn3 : n ≤ 3000000 := by omega
        have hSl : Sx.length = n := hn.symm
        have HSL := Lib.hid hSl
        have hcs : n ≤ cs0 := hcs0
        clear hvs2 hn HV hcz
        go_wp2_with fail
        go_loopg [5] n (fun gg s5 wr => ∃ (i : Nat) (Sz : List Value) (Y : World), Y = wr ∧ i ≤ n ∧ n - i ≤ gg ∧ s5 = .int .i64 i ∧ Hid (Sz.length = n) ∧ Y.cell? ⟨D, 3, none⟩ = some (.slice (some ⟨g, 0, none⟩) n cs0) ∧ Hid (∀ j, j < i → Sz.getD j nilV = nilV) ∧ Hid (Sev D Pl w (.slice ai I.length ci) (.slice (some ⟨g, 0, none⟩) n cs0) I M Sz W0 Y))
        case atStart => exact ⟨0, Sx, _, rfl, Nat.zero_le _, by omega, rfl, Lib.hid hSl, HV2.out.desk.c3, Lib.hid (fun j hj => by omega), HV2⟩
        case round =>
          clear HV2 hSl HSL hc2 hc3
          obtain ⟨i, Sz, Y, hY, hin, hgg2, rfl, HSZ, hcY, HZ, HV⟩ := hrel
          subst hY
          by_cases hin2 : i < n
          · have hinz : (i : Int) < (n : Int) := by omega
            have hr := HV.out.desk.rset
            rw [HSZ.out] at hr
            have cgi : ∃ u, Y.cell? ⟨g, i, none⟩ = some u := ⟨_, by rw [hr.cellAt i (by omega)]; exact List.getElem?_eq_getElem (by rw [HSZ.out]; exact hin2)⟩
            obtain ⟨u1, cgi⟩ := cgi
            have fgi : Y.frozen? ⟨g, i, none⟩ = false := hr.frozenAt i
            have HP := Lib.hid (HV.out.put HSZ.out i nilV)
            clear hr
            go_wp2_with fail
            go_roundg (n - (i + 1))
            case measure => omega
            case rel =>
              refine ⟨i + 1, Sz.set i nilV, _, rfl, by omega, by omega, by go_num, Lib.hid (by rw [List.length_set]; exact HSZ.out), HP.out.desk.c3, Lib.hid (fun j hj => ?_), HP⟩
              by_cases hji : j = i
              · subst hji; rw [getD_set_eq _ _ _ _ (by rw [HSZ.out]; exact hin2)]
              · rw [getD_set_ne' _ _ _ _ _ (Ne.symm hji)]; exact HZ.out j (by omega)
          · have hinz : ¬ (i : Int) < (n : Int) := by omega
            have HDN : Hid (DoneS ll I M Sz 0) := Lib.hid ⟨fun j hj => by omega, fun j _ => by
              by_cases hj : j < i
              · exact HZ.out j hj
              · rw [List.getD_eq_getElem?_getD, List.getElem?_eq_none (by rw [HSZ.out]; omega)]; rfl⟩
            clear HZ hin2
            go_wp2_with fail
            go_loopg [6] ll.length (fun gg s6 wr => ∃ (k : Nat) (I2 : List Value) (M2 : List (List Rg)) (Sz : List Value) (Z : World), Z = wr ∧ k ≤ ll.length ∧ ll.length - k ≤ gg ∧ s6 = .int .i64 k ∧ Hid (I2.length = I.length) ∧ Hid (Sz.length = n) ∧ Hid (DoneS ll I2 M2 Sz k) ∧ Hid (Sev D Pl w (.slice ai I.length ci) (.slice (some ⟨g, 0, none⟩) n cs0) I2 M2 Sz W0 Z))
            case atStart => exact ⟨0, I, M, Sz, _, rfl, Nat.zero_le _, by omega, rfl, Lib.hid rfl, HSZ, HDN, HV⟩
            case round =>
              clear HV HDN HSZ hcY
              obtain ⟨k, I2, M2, Sz, Z, hZ, hk, hgg3, rfl, HI2, HSZ, HDN, HV⟩ := hrel
              subst hZ
              by_cases hkl : k < ll.length
              · have hkz : (k : Int) < (ll.length : Int) := by omega
                have hk0 : (0 : Int) ≤ (k : Int) := by omega
                have hkI : (k : Int) < (I.length : Int) := by omega
                have hkn : (k : Int) < (n : Int) := by omega
                have hme : ll.length - (k + 1) < ll.length - k := by omega
                obtain ⟨gi, hgi⟩ : ∃ gi, ai = some ⟨gi, 0, none⟩ := by
                  obtain ⟨_, _, hv, hx⟩ := rin_form HV.out.desk.rin
                  simp only [Value.slice.injEq] at hv
                  obtain ⟨rfl, _, _⟩ := hv
                  exact hx (by rw [HI2.out]; omega)
                subst hgi
                obtain ⟨b, off, f, hal, hfl⟩ := HL.out (by omega)
                subst hal
                obtain ⟨fc, fr⟩ := hfl k hkl
                obtain ⟨af, cf, hfs, _⟩ := fr.shape
                rw [hfs] at fc
                have hbw : Below W0.heap.size W0 Z := by have := HV.out.desk.below; rw [HDW.out] at this; exact this
                have cbl := cellOn fc hbw
                have HRF : Hid (Rgs Z.drew (.slice af (ll.getD k []).length cf) (ll.getD k [])) := Lib.hid (by rw [hfs] at fr; exact (fr.on hbw).on (Below.refl _ _).drew)
                have hbl : b < W0.heap.size := block_lt_of_cell fc
                have hlk : (ll.getD k []).length ≤ 1000000 := HLE.out k hkl
                have HV3 := Lib.hid (HV.out.on (Below.refl _ _).drew)
                have hkI2 : k < I2.length := by rw [HI2.out]; omega
                have hri := HV.out.desk.rin
                rw [HI2.out] at hri
                have cgk : Z.cell? ⟨gi, k, none⟩ = some (I2.getD k nilV) := by rw [hri.cellAt k (by omega), List.getD_eq_getElem?_getD, List.getElem?_eq_getElem hkI2]; rfl
                have hS : s12 D gi k b (off + k) (.slice (some ⟨gi, 0, none⟩) I.length ci) (I2.getD k nilV) (.slice af (ll.getD k []).length cf) Z.drew := ⟨HV.out.desk.c2, cgk, cbl⟩
                have HLAY := Lib.hid (lay_any (HV3.out.desk.pls k hkI2).1 HV3.out.desk.base HRF.out hlk (HV3.out.desk.pls k hkI2).2)
                have HLK := Lib.hid hkI2
                clear hfl fc fr hfs hbw cbl hri cgk hkI2 HV
                generalize hlet : ll.getD k [] = l at *
                have HLET := Lib.hid hlet
                clear hlet
                generalize hpi : I2.getD k nilV = pi at *
                have HPI := Lib.hid hpi
                clear hpi
                go_wp2_with fail
                refine wp_region_M 18 (s12 D gi k b (off + k) (.slice (some ⟨gi, 0, none⟩) I.length ci) pi (.slice af l.length cf)) (by kernel_rfl) ?_
                refine wpAnyM_take (i := 0) (v := ?_) rfl (by kernel_rfl) (by kernel_rfl) (by kernel_rfl) (by kernel_rfl) (fun _ _ _ h => h) (Or.inl ⟨by rfl, ?_⟩) hS ?_
                rotate_left
                · (intro X hX; (try dsimp only at hX); go_simp; try (with_reducible rfl))
                (try simp only [Act.put])
                refine wpAnyM_take (i := 1) (v := ?_) rfl (by kernel_rfl) (by kernel_rfl) (by kernel_rfl) (by kernel_rfl) (fun _ _ _ h => h) (Or.inl ⟨by rfl, ?_⟩) hS ?_
                rotate_left
                · (intro X hX; (try dsimp only at hX); go_simp; try (with_reducible rfl))
                (try simp only [Act.put])
                refine wpAnyM_take (i := 2) (v := ?_) rfl (by kernel_rfl) (by kernel_rfl) (by kernel_rfl) (by kernel_rfl) (fun _ _ _ h => h) (Or.inl ⟨by rfl, ?_⟩) hS ?_
                rotate_left
                · (intro X hX; (try dsimp only at hX); go_simp; try (with_reducible rfl))
                (try simp only [Act.put])
                refine wpAnyM_take (i := 3) (v := ?_) rfl (by kernel_rfl) (by kernel_rfl) (by kernel_rfl) (by kernel_rfl) (fun _ _ _ h => h) (Or.inl ⟨by rfl, ?_⟩) hS ?_
                rotate_left
                · (intro X hX; (try dsimp only at hX); go_simp; try (with_reducible rfl))
                (try simp only [Act.put])
                refine wpAnyM_take (i := 4) (v := ?_) rfl (by kernel_rfl) (by kernel_rfl) (by kernel_rfl) (by kernel_rfl) (fun _ _ _ h => h) (Or.inl ⟨by rfl, ?_⟩) hS ?_
                rotate_left
                · (intro X hX; (try dsimp only at hX); go_simp; try (with_reducible rfl))
                (try simp only [Act.put])
                refine wpAnyM_take (i := 5) (v := ?_) rfl (by kernel_rfl) (by kernel_rfl) (by kernel_rfl) (by kernel_rfl) (fun _ _ _ h => h) (Or.inl ⟨by rfl, ?_⟩) hS ?_
                rotate_left
                · (intro X hX; (try dsimp only at hX); go_simp; try (with_reducible rfl))
                (try simp only [Act.put])
                refine wpAnyM_take (i := 6) (v := ?_) rfl (by kernel_rfl) (by kernel_rfl) (by kernel_rfl) (by kernel_rfl) (fun _ _ _ h => h) (Or.inl ⟨by rfl, ?_⟩) hS ?_
                rotate_left
                · (intro X hX; (try dsimp only at hX); go_simp; try (with_reducible rfl))
                (try simp only [Act.put])
                refine wpAnyM_take (i := 7) (v := ?_) rfl (by kernel_rfl) (by kernel_rfl) (by kernel_rfl) (by kernel_rfl) (fun _ _ _ h => h) (Or.inl ⟨by rfl, ?_⟩) hS ?_
                rotate_left
                · (intro X hX; (try dsimp only at hX); go_simp; try (with_reducible rfl))
                (try simp only [Act.put])
                refine wpAnyM_take (i := 8) (v := ?_) rfl (by kernel_rfl) (by kernel_rfl) (by kernel_rfl) (by kernel_rfl) (fun _ _ _ h => h) (Or.inl ⟨by rfl, ?_⟩) hS ?_
                rotate_left
                · (intro X hX; (try dsimp only at hX); go_simp; try (with_reducible rfl))
                (try simp only [Act.put])
                refine wpAnyM_take (i := 9) (v := ?_) rfl (by kernel_rfl) (by kernel_rfl) (by kernel_rfl) (by kernel_rfl) (fun _ _ _ h => h) (Or.inl ⟨by rfl, ?_⟩) hS ?_
                rotate_left
                · (intro X hX; (try dsimp only at hX); go_simp; try (with_reducible rfl))
                (try simp only [Act.put])
                refine wpAnyM_take (i := 10) (v := ?_) rfl (by kernel_rfl) (by kernel_rfl) (by kernel_rfl) (by kernel_rfl) (fun _ _ _ h => h) (Or.inl ⟨by rfl, ?_⟩) hS ?_
                rotate_left
                · (intro X hX; (try dsimp only at hX); go_simp; try (with_reducible rfl))
                (try simp only [Act.put])
                refine wpAnyM_take (i := 11) (v := ?_) rfl (by kernel_rfl) (by kernel_rfl) (by kernel_rfl) (by kernel_rfl) (fun _ _ _ h => h) (Or.inl ⟨by rfl, ?_⟩) hS ?_
                rotate_left
                · (intro X hX; (try dsimp only at hX); go_simp; try (with_reducible rfl))
                (try simp only [Act.put])
                refine wpAnyM_take (i := 12) (v := ?_) rfl (by kernel_rfl) (by kernel_rfl) (by kernel_rfl) (by kernel_rfl) (fun _ _ _ h => h) (Or.inl ⟨by rfl, ?_⟩) hS ?_
                rotate_left
                · (intro X hX; (try dsimp only at hX); go_simp; try (with_reducible rfl))
                (try simp only [Act.put])
                refine wpAnyM_take (i := 13) (v := ?_) rfl (by kernel_rfl) (by kernel_rfl) (by kernel_rfl) (by kernel_rfl) (fun _ _ _ h => h) (Or.inl ⟨by rfl, ?_⟩) hS ?_
                rotate_left
                · (intro X hX; (try dsimp only at hX); go_simp; try (with_reducible rfl))
                (try simp only [Act.put])
                refine wpAnyM_take (i := 14) (v := ?_) rfl (by kernel_rfl) (by kernel_rfl) (by kernel_rfl) (by kernel_rfl) (fun _ _ _ h => h) (Or.inl ⟨by rfl, ?_⟩) hS ?_
                rotate_left
                · (intro X hX; (try dsimp only at hX); go_simp; try (with_reducible rfl))
                (try simp only [Act.put])
                refine wpAnyM_take (i := 15) (v := ?_) rfl (by kernel_rfl) (by kernel_rfl) (by kernel_rfl) (by kernel_rfl) (fun _ _ _ h => h) (Or.inl ⟨by rfl, ?_⟩) hS ?_
                rotate_left
                · (intro X hX; (try dsimp only at hX); go_simp; try (with_reducible rfl))
                (try simp only [Act.put])
                refine wpAnyM_one (i := 16) (by kernel_rfl) rfl (fun K hK => ?_)
                go_simp
                refine HLAY.out.mono ?_
                rintro e w4 ⟨gp, np, cp, rfl, hLd, hnp⟩
                have hlaid : Laid (D + 1) (I2.getD k nilV).ownBlock l gp np cp Z.drew w4 := by rw [HPI.out]; exact hLd
                obtain ⟨⟨q1, q2, q3, q4, q5⟩, hsv⟩ := HV3.out.laid HI2.out k HLK.out hlaid hnp
                rw [HPI.out] at q1
                have q6 : w4.cell? ⟨b, off + k, none⟩ = some (.slice af l.length cf) := by
                  rw [q5.cell (p := ⟨b, off + k, none⟩) (by rw [HDW.out]; exact hbl), ← HV3.out.desk.below.cell (p := ⟨b, off + k, none⟩) (by rw [HDW.out]; exact hbl)]
                  exact hS.2.2
                obtain ⟨hnc, hlc⟩ := laid_caps hLd
                have hln := hLd.len
                have HSV := Lib.hid hsv
                have hlcz : (l.length : Int) ≤ (cp : Int) := by omega
                clear hlaid hLd hsv
                dsimp only
                have hS4 : s12 D gi k b (off + k) (.slice (some ⟨gi, 0, none⟩) I.length ci) pi (.slice af l.length cf) w4 := ⟨q3, q1, q6⟩
                refine hK.out _ _ (fun _ => hS4) ?_
                clear hK K
                (try simp only [Act.put])
                refine wpAnyM_take (i := 17) (v := ?_) rfl (by kernel_rfl) (by kernel_rfl) (by kernel_rfl) (by kernel_rfl) (fun _ _ _ h => h) (Or.inl ⟨by rfl, ?_⟩) hS4 ?_
                rotate_left
                · (intro X hX; (try dsimp only at hX); go_simp; try (with_reducible rfl))
                (try simp only [Act.put])
                refine wpAnyM_one (i := 18) (by kernel_rfl) rfl (fun K hK => ?_)
                go_simp
                refine hK.out _ _ (fun h => absurd rfl h) ?_
                clear hK K
                refine wpAnyM_done (by kernel_rfl) ?_ _
                go_wp2_with fail
                refine wp_genS (fun Y5 hY5 => ?_)
                rw [← hY5] at HSV
                have q7 : Y5.cell? ⟨b, off + k, none⟩ = some (.slice af l.length cf) := by
                  rw [HSV.out.desk.below.cell (p := ⟨b, off + k, none⟩) (by rw [HDW.out]; exact hbl), ← q5.cell (p := ⟨b, off + k, none⟩) (by rw [HDW.out]; exact hbl)]
                  exact q6
                have q8 : Y5.cell? ⟨gi, k, none⟩ = some (.slice (some ⟨gp, 0, none⟩) np cp) := by
                  rw [hY5, World.cell?_setCell_same' _ _ _ (by rw [q1]; rfl)]
                have hS5 : s13 D gi k b (off + k) (.slice (some ⟨g, 0, none⟩) n cs0) (.slice (some ⟨gi, 0, none⟩) I.length ci) (.slice (some ⟨gp, 0, none⟩) np cp) (.slice af l.length cf) Y5.drew := ⟨HSV.out.desk.c3, HSV.out.desk.c2, q8, q7⟩
                have hrs := HSV.out.desk.rset
                rw [HSZ.out] at hrs
                have c9 : ∃ u, Y5.drew.cell? ⟨g, k, none⟩ = some u := ⟨_, (hrs.cellAt k (by omega)).trans (List.getElem?_eq_getElem (by rw [HSZ.out]; omega))⟩
                obtain ⟨u9, c9⟩ := c9
                have f9 : Y5.drew.frozen? ⟨g, k, none⟩ = false := hrs.frozenAt k
                have HSV6 := Lib.hid (HSV.out.on (Below.refl _ _).drew)
                clear hY5 q1 q2 q3 q4 q5 q6 q7 q8 hrs hS hS4 HV3 HLAY HSV
                refine wp_region_M 19 (s13 D gi k b (off + k) (.slice (some ⟨g, 0, none⟩) n cs0) (.slice (some ⟨gi, 0, none⟩) I.length ci) (.slice (some ⟨gp, 0, none⟩) np cp) (.slice af l.length cf)) (by kernel_rfl) ?_
                refine wpAnyM_take (i := 0) (v := ?_) rfl (by kernel_rfl) (by kernel_rfl) (by kernel_rfl) (by kernel_rfl) (fun _ _ _ h => h) (Or.inl ⟨by rfl, ?_⟩) hS5 ?_
                rotate_left
                · (intro X hX; (try dsimp only at hX); go_simp; try (with_reducible rfl))
                (try simp only [Act.put])
                refine wpAnyM_take (i := 1) (v := ?_) rfl (by kernel_rfl) (by kernel_rfl) (by kernel_rfl) (by kernel_rfl) (fun _ _ _ h => h) (Or.inl ⟨by rfl, ?_⟩) hS5 ?_
                rotate_left
                · (intro X hX; (try dsimp only at hX); go_simp; try (with_reducible rfl))
                (try simp only [Act.put])
                refine wpAnyM_take (i := 2) (v := ?_) rfl (by kernel_rfl) (by kernel_rfl) (by kernel_rfl) (by kernel_rfl) (fun _ _ _ h => h) (Or.inl ⟨by rfl, ?_⟩) hS5 ?_
                rotate_left
                · (intro X hX; (try dsimp only at hX); go_simp; try (with_reducible rfl))
                (try simp only [Act.put])
                refine wpAnyM_take (i := 3) (v := ?_) rfl (by kernel_rfl) (by kernel_rfl) (by kernel_rfl) (by kernel_rfl) (fun _ _ _ h => h) (Or.inl ⟨by rfl, ?_⟩) hS5 ?_
                rotate_left
                · (intro X hX; (try dsimp only at hX); go_simp; try (with_reducible rfl))
                (try simp only [Act.put])
                refine wpAnyM_take (i := 4) (v := ?_) rfl (by kernel_rfl) (by kernel_rfl) (by kernel_rfl) (by kernel_rfl) (fun _ _ _ h => h) (Or.inl ⟨by rfl, ?_⟩) hS5 ?_
                rotate_left
                · (intro X hX; (try dsimp only at hX); go_simp; try (with_reducible rfl))
                (try simp only [Act.put])
                refine wpAnyM_take (i := 5) (v := ?_) rfl (by kernel_rfl) (by kernel_rfl) (by kernel_rfl) (by kernel_rfl) (fun _ _ _ h => h) (Or.inl ⟨by rfl, ?_⟩) hS5 ?_
                rotate_left
                · (intro X hX; (try dsimp only at hX); go_simp; try (with_reducible rfl))
                (try simp only [Act.put])
                refine wpAnyM_take (i := 6) (v := ?_) rfl (by kernel_rfl) (by kernel_rfl) (by kernel_rfl) (by kernel_rfl) (fun _ _ _ h => h) (Or.inl ⟨by rfl, ?_⟩) hS5 ?_
                rotate_left
                · (intro X hX; (try dsimp only at hX); go_simp; try (with_reducible rfl))
                (try simp only [Act.put])
                refine wpAnyM_take (i := 7) (v := ?_) rfl (by kernel_rfl) (by kernel_rfl) (by kernel_rfl) (by kernel_rfl) (fun _ _ _ h => h) (Or.inl ⟨by rfl, ?_⟩) hS5 ?_
                rotate_left
                · (intro X hX; (try dsimp only at hX); go_simp; try (with_reducible rfl))
                (try simp only [Act.put])
                refine wpAnyM_take (i := 8) (v := ?_) rfl (by kernel_rfl) (by kernel_rfl) (by kernel_rfl) (by kernel_rfl) (fun _ _ _ h => h) (Or.inl ⟨by rfl, ?_⟩) hS5 ?_
                rotate_left
                · (intro X hX; (try dsimp only at hX); go_simp; try (with_reducible rfl))
                (try simp only [Act.put])
                refine wpAnyM_take (i := 9) (v := ?_) rfl (by kernel_rfl) (by kernel_rfl) (by kernel_rfl) (by kernel_rfl) (fun _ _ _ h => h) (Or.inl ⟨by rfl, ?_⟩) hS5 ?_
                rotate_left
                · (intro X hX; (try dsimp only at hX); go_simp; try (with_reducible rfl))
                (try simp only [Act.put])
                refine wpAnyM_take (i := 10) (v := ?_) rfl (by kernel_rfl) (by kernel_rfl) (by kernel_rfl) (by kernel_rfl) (fun _ _ _ h => h) (Or.inl ⟨by rfl, ?_⟩) hS5 ?_
                rotate_left
                · (intro X hX; (try dsimp only at hX); go_simp; try (with_reducible rfl))
                (try simp only [Act.put])
                refine wpAnyM_take (i := 11) (v := ?_) rfl (by kernel_rfl) (by kernel_rfl) (by kernel_rfl) (by kernel_rfl) (fun _ _ _ h => h) (Or.inl ⟨by rfl, ?_⟩) hS5 ?_
                rotate_left
                · (intro X hX; (try dsimp only at hX); go_simp; try (with_reducible rfl))
                (try simp only [Act.put])
                refine wpAnyM_take (i := 12) (v := ?_) rfl (by kernel_rfl) (by kernel_rfl) (by kernel_rfl) (by kernel_rfl) (fun _ _ _ h => h) (Or.inl ⟨by rfl, ?_⟩) hS5 ?_
                rotate_left
                · (intro X hX; (try dsimp only at hX); go_simp; try (with_reducible rfl))
                (try simp only [Act.put])
                refine wpAnyM_take (i := 13) (v := ?_) rfl (by kernel_rfl) (by kernel_rfl) (by kernel_rfl) (by kernel_rfl) (fun _ _ _ h => h) (Or.inl ⟨by rfl, ?_⟩) hS5 ?_
                rotate_left
                · (intro X hX; (try dsimp only at hX); go_simp; try (with_reducible rfl))
                (try simp only [Act.put])
                refine wpAnyM_take (i := 14) (v := ?_) rfl (by kernel_rfl) (by kernel_rfl) (by kernel_rfl) (by kernel_rfl) (fun _ _ _ h => h) (Or.inl ⟨by rfl, ?_⟩) hS5 ?_
                rotate_left
                · (intro X hX; (try dsimp only at hX); go_simp; try (with_reducible rfl))
                (try simp only [Act.put])
                refine wpAnyM_take (i := 15) (v := ?_) rfl (by kernel_rfl) (by kernel_rfl) (by kernel_rfl) (by kernel_rfl) (fun _ _ _ h => h) (Or.inl ⟨by rfl, ?_⟩) hS5 ?_
                rotate_left
                · (intro X hX; (try dsimp only at hX); go_simp; try (with_reducible rfl))
                (try simp only [Act.put])
                refine wpAnyM_take (i := 16) (v := ?_) rfl (by kernel_rfl) (by kernel_rfl) (by kernel_rfl) (by kernel_rfl) (fun _ _ _ h => h) (Or.inl ⟨by rfl, ?_⟩) hS5 ?_
                rotate_left
                · (intro X hX; (try dsimp only at hX); go_simp; try (with_reducible rfl))
                (try simp only [Act.put])
                refine wpAnyM_take (i := 17) (v := ?_) rfl (by kernel_rfl) (by kernel_rfl) (by kernel_rfl) (by kernel_rfl) (fun _ _ _ h => h) (Or.inl ⟨by rfl, ?_⟩) hS5 ?_
                rotate_left
                · (intro X hX; (try dsimp only at hX); go_simp; try (with_reducible rfl))
                (try simp only [Act.put])
                refine wpAnyM_take (i := 18) (v := ?_) rfl (by kernel_rfl) (by kernel_rfl) (by kernel_rfl) (by kernel_rfl) (fun _ _ _ h => h) (Or.inl ⟨by rfl, ?_⟩) hS5 ?_
                rotate_left
                · (intro X hX; (try dsimp only at hX); go_simp; try (with_reducible rfl))
                (try simp only [Act.put])
                refine wpAnyM_one (i := 19) (by kernel_rfl) rfl (fun K hK => ?_)
                go_simp
                refine hK.out _ _ (fun h => absurd rfl h) ?_
                clear hK K
                refine wpAnyM_done (by kernel_rfl) ?_ _
                have HP := Lib.hid (HSV6.out.put HSZ.out k (.slice (some ⟨gp, 0, none⟩) l.length cp))
                go_wp2_with fail
                go_roundg (ll.length - (k + 1))
                case measure => exact Nat.lt_of_lt_of_le hme hgg3
                case rel =>
                  refine ⟨k + 1, _, _, _, _, rfl, hkl, Nat.le_refl _, by go_num, Lib.hid (by rw [List.length_set]; exact HI2.out), Lib.hid (by rw [List.length_set]; exact HSZ.out), Lib.hid ?_, HP⟩
                  have := HDN.out.next (g := gp) (n := np) (cap := cp) HLK.out (by rw [← HSV6.out.desk.len.trans (List.length_set ..), List.length_set]; exact HLK.out) (by rw [HSZ.out]; omega) (by rw [HLET.out]; exact hln) hnc hnp
                  rw [HLET.out] at this
                  exact this
              · have hkz : ¬ (k : Int) < (ll.length : Int) := by omega
                have hke : k = ll.length := by omega
                have hc3 := HV.out.desk.c3
                have hlcs : (ll.length : Int) ≤ (cs0 : Int) := by omega
                go_wp2_with fail
                go_ret
                exact ⟨_, g, n, _, rfl, I2, M2, Sz, ⟨HV.out, by rw [← hke]; exact HDN.out, by rw [HI2.out]; omega, by rw [HI2.out]; omega, HSZ.out, hn4, hn3, hcs⟩⟩
end Go.Proofs.YtkclcjnfjielfabDoor
