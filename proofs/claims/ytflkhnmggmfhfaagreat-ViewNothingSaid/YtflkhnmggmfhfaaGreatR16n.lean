/- The document's view: Find. -/
import Derived.Test.YtflkhnmggmfhfaaGreatR16m
import Derived.BigQuiet
namespace Go.Proofs.YtflkhnmggmfhfaaGreat
open Go.RowKit

def lfR (R : List RR) : List Int := (R.filter (fun r => !r.gone)).map RR.uid
theorem lfR_left {R : List RR} {V : PV} (h : R.map RR.pl = V.rows) : lfR R = leftU V := by
  unfold lfR leftU uidsP stayR
  rw [← h, List.filter_map, List.map_map]
  rfl
theorem lastI_D (l : List Int) : lastI l = lastD l 0 := by
  by_cases h : l = []
  · subst h; rfl
  · exact (lastD_getD l 0 h).symm
theorem takeR_snoc {R : List RR} {k : Nat} {x : RR} (h : R[k]? = some x) : R.take (k + 1) = R.take k ++ [x] := by
  have hk : k < R.length := (List.getElem?_eq_some_iff.1 h).1
  rw [List.take_succ_eq_append_getElem hk]
  rw [(List.getElem?_eq_some_iff.1 h).2]
theorem lfR_snoc {R : List RR} {k : Nat} {x : RR} (h : R[k]? = some x) : lfR (R.take (k + 1)) = lfR (R.take k) ++ (if x.gone = true then [] else [x.uid]) := by
  rw [takeR_snoc h]
  unfold lfR
  rw [List.filter_append, List.map_append]
  congr 1
  cases hg : x.gone <;> simp [hg]
/-- The things at whose numbers p holds. -/
def selN {α : Type} (p : Int → Bool) : Nat → List α → List α
  | _, [] => []
  | i, r :: R => (if p ((i : Int) + 1) = true then [r] else []) ++ selN p (i + 1) R
theorem selN_snoc {α : Type} (p : Int → Bool) : ∀ (R : List α) (i : Nat) (r : α), selN p i (R ++ [r]) = selN p i R ++ (if p (((i + R.length : Nat) : Int) + 1) = true then [r] else [])
  | [], i, r => by simp [selN]
  | x :: R, i, r => by
    show (if p ((i : Int) + 1) = true then [x] else []) ++ selN p (i + 1) (R ++ [r]) = ((if p ((i : Int) + 1) = true then [x] else []) ++ selN p (i + 1) R) ++ _
    rw [selN_snoc p R (i + 1) r, List.append_assoc]
    congr 3
    rw [show i + 1 + R.length = i + (x :: R).length by simp; omega]
theorem selN_map {α β : Type} (p : Int → Bool) (f : α → β) : ∀ (R : List α) (i : Nat), selN p i (R.map f) = (selN p i R).map f
  | [], _ => rfl
  | r :: R, i => by
    show (if p ((i : Int) + 1) = true then [f r] else []) ++ selN p (i + 1) (R.map f) = ((if p ((i : Int) + 1) = true then [r] else []) ++ selN p (i + 1) R).map f
    rw [selN_map p f R (i + 1), List.map_append]
    congr 1
    split <;> rfl
theorem selN_fol {α : Type} (p : Int → Bool) (z : α) : ∀ (R pre : List α), ((folN ((pre.length : Int) + 1) R.length).filter p).map (fun k => (pre ++ R).getD (k - 1).toNat z) = selN p pre.length R
  | [], pre => by simp [folN, selN]
  | r :: R, pre => by
    have ih := selN_fol p z R (pre ++ [r])
    rw [List.length_append, List.append_assoc] at ih
    have e1 : (((pre.length + [r].length : Nat) : Int) + 1) = ((pre.length : Int) + 1) + 1 := by simp
    rw [e1] at ih
    have e2 : folN ((pre.length : Int) + 1) (r :: R).length = ((pre.length : Int) + 1) :: folN ((pre.length : Int) + 1 + 1) R.length := by
      rw [List.length_cons, folN_cons]
    rw [e2]
    show _ = (if p ((pre.length : Int) + 1) = true then [r] else []) ++ selN p (pre.length + 1) R
    by_cases hp : p ((pre.length : Int) + 1) = true
    · rw [List.filter_cons_of_pos hp, if_pos hp, List.map_cons]
      have e3 : (pre ++ r :: R).getD ((pre.length : Int) + 1 - 1).toNat z = r := by
        rw [show ((pre.length : Int) + 1 - 1).toNat = pre.length by omega]
        simp
      rw [e3]
      show r :: _ = r :: _
      congr 1
    · rw [List.filter_cons_of_neg hp, if_neg hp]
      exact ih
theorem numL_has {n : Nat} (hn : n ≤ 1000000) (l : List Rg) : numL n l = (folN 1 n).filter (fun m => hasB l m (n : Int)) := by
  unfold numL ofL
  rw [fol_one n hn]
  cases n with
  | zero => rfl
  | succ n =>
    have : lastI (folN 1 (n + 1)) = ((n + 1 : Nat) : Int) := by
      rw [lastI_D, folN_succ, lastD_snoc]
      push_cast
      omega
    rw [this]
theorem find_sel {V : PV} (hn : V.rows.length ≤ 1000000) (l : List Rg) : (numL V.rows.length l).map (fun k => rowP V k) = selN (fun m => hasB l m (V.rows.length : Int)) 0 V.rows := by
  have := selN_fol (fun m => hasB l m (V.rows.length : Int)) (⟨0, false, false, none⟩ : PR) V.rows []
  refine Eq.trans ?_ this
  rw [numL_has hn l]
  rfl
section
variable {P : Nat} {nn : Bool} {val : Int} {rv cv : Value} {R : List RR} {C : List Int} {w : World}
set_option maxRecDepth 100000 in
set_option maxHeartbeats 2000000 in
theorem rFind_uid (h : RV nn P val rv cv R C w) (hl : R.length ≤ 1000000) (v : Value) (l : List Rg) (hr : Rgs w v l) :
    Calls Tryz.prog 18 #[.pointer (some ⟨P, 0, none⟩), v, .bool true] w fun e w' => ∃ v', e = .returned (.tuple #[v', .bool false, .int .i64 0]) ∧ OwnI w.heap.size v' (ofL l (lfR R)) w w' := by
  obtain ⟨av, cvv, rfl, _⟩ := hr.shape
  have HV := Lib.hid h
  have HRg := Lib.hid hr
  obtain ⟨ar, cr, er⟩ := ownsRow_shape h.rows
  obtain ⟨_, _, c2, _⟩ := h.cells
  rw [er] at c2
  have HER := Lib.hid er
  have HL : Hid (∀ k, k < R.length → ∃ (g : Nat) (x : RR), ar = some ⟨g, 0, none⟩ ∧ R[k]? = some x ∧ w.cell? ⟨g, k * 6, none⟩ = some (.int .i64 x.uid) ∧ w.cell? ⟨g, k * 6 + 2, none⟩ = some (.bool x.gone) ∧ g < w.heap.size) := Lib.hid (fun k hk => by
    obtain ⟨x, hx⟩ := rget hk
    obtain ⟨g, cap, e2, hg, ra⟩ := h.row_at hx
    rw [er] at e2
    injection e2 with p1 p2 p3
    exact ⟨g, x, p1, hx, ra.c0, ra.c2, hg⟩)
  have hPw : P < w.heap.size := lt_of_heap h.self
  clear h hr er
  go_enter Tryz.func18, Tryz.ntmps18
  go_upto_region 5 with fail
  go_loopw [10, 11] (fun n i wr => ∃ k : Nat, k ≤ R.length ∧ i = .int .i64 k ∧ n = .int .i64 (lastD (lfR (R.take k)) 0) ∧ wr = w) (fun _ i _ => R.length - (intOf i).toNat)
  case atStart => exact ⟨0, Nat.zero_le _, rfl, rfl, rfl⟩
  case round =>
    obtain ⟨k, hk, rfl, rfl, rfl⟩ := hrel
    by_cases hlt : k < R.length
    · have hlti : (k : Int) < (R.length : Int) := by omega
      obtain ⟨g, x, rfl, hx, k0, k2, _⟩ := HL.out k hlt
      have HS := Lib.hid (lfR_snoc hx)
      cases hg : x.gone with
      | true =>
        rw [hg] at k2
        have HT : Hid (lastD (lfR (R.take (k + 1))) 0 = lastD (lfR (R.take k)) 0) := Lib.hid (by rw [HS.out, if_pos hg, List.append_nil])
        clear hx hg HS
        generalize lastD (lfR (R.take k)) 0 = n at *
        go_wp2_with fail
        go_roundw
        case rel => exact ⟨k + 1, by omega, by go_num, by rw [HT.out], (by first | rfl | trivial)⟩
        case measure => simp [intOf]; omega
      | false =>
        rw [hg] at k2
        have HT : Hid (lastD (lfR (R.take (k + 1))) 0 = x.uid) := Lib.hid (by rw [HS.out, if_neg (by rw [hg]; simp), lastD_snoc])
        clear hx hg HS
        generalize x.uid = xu at *
        generalize lastD (lfR (R.take k)) 0 = n at *
        go_wp2_with fail
        go_roundw
        case rel => exact ⟨k + 1, by omega, by go_num, by rw [HT.out], (by first | rfl | trivial)⟩
        case measure => simp [intOf]; omega
    · obtain rfl : k = R.length := by omega
      rw [List.take_length]
      have HLa : Hid (lastD (lfR R) 0 = lastI (lfR R)) := Lib.hid (lastI_D _).symm
      have HO : Hid (∀ k, ((lfR (R.take k)).filter (fun n => hasB l n (lastI (lfR R)))).length + 1 ≤ 17592186044416) := Lib.hid (fun k => by
        have h1 := List.length_filter_le (fun n => hasB l n (lastI (lfR R))) (lfR (R.take k))
        have h2 : (lfR (R.take k)).length ≤ (R.take k).length := by unfold lfR; rw [List.length_map]; exact List.length_filter_le _ _
        have h3 : (R.take k).length ≤ R.length := by rw [List.length_take]; omega
        omega)
      generalize hla : lastD (lfR R) 0 = la at *
      clear hla
      go_upto_region 10 with fail
      go_loopw [9, 12] (fun lv i wx => ∃ (k : Nat) (lv' : Value) (X : World), X = wx ∧ lv' = lv ∧ k ≤ R.length ∧ i = .int .i64 k ∧ OwnI wr.heap.size lv' ((lfR (R.take k)).filter (fun n => hasB l n (lastI (lfR R)))) wr X) (fun _ i _ => R.length - (intOf i).toNat)
      case atStart => exact ⟨0, _, _, rfl, rfl, Nat.zero_le _, rfl, OwnI.nil (Below.refl _ _) (Nat.le_refl _)⟩
      case round =>
        obtain ⟨k, lv', X, hX, hlv, hk2, rfl, ho⟩ := hrel
        subst hX hlv
        have c2x : X.cell? ⟨P, 2, none⟩ = some (.slice ar R.length cr) := by rw [ho.below.cell (p := ⟨P, 2, none⟩) hPw]; exact c2
        by_cases hlt : k < R.length
        · have hlti : (k : Int) < (R.length : Int) := by omega
          obtain ⟨g, x, rfl, hx, k0, k2, hgw⟩ := HL.out k hlt
          have HS := Lib.hid (lfR_snoc hx)
          rw [← ho.below.cell (p := ⟨g, k * 6, none⟩) hgw] at k0
          rw [← ho.below.cell (p := ⟨g, k * 6 + 2, none⟩) hgw] at k2
          cases hg : x.gone with
          | true =>
            rw [hg] at k2
            have HO1 : Hid (OwnI wr.heap.size lv' ((lfR (R.take (k + 1))).filter (fun n => hasB l n (lastI (lfR R)))) wr X) := Lib.hid (by rw [HS.out, if_pos hg, List.append_nil]; exact ho)
            clear hx hg HS ho
            go_wp2_with fail
            go_roundw
            case rel => exact ⟨k + 1, _, _, rfl, rfl, by omega, by go_num, HO1.out⟩
            case measure => simp [intOf]; omega
          | false =>
            rw [hg] at k2
            have HT : Hid ((lfR (R.take (k + 1))).filter (fun n => hasB l n (lastI (lfR R))) = (lfR (R.take k)).filter (fun n => hasB l n (lastI (lfR R))) ++ (if hasB l x.uid (lastI (lfR R)) = true then [x.uid] else [])) := Lib.hid (by
              rw [HS.out, if_neg (by rw [hg]; simp), List.filter_append]
              congr 1
              by_cases hq : hasB l x.uid (lastI (lfR R)) = true
              · rw [if_pos hq, List.filter_cons_of_pos (by simpa using hq)]; rfl
              · rw [if_neg hq, List.filter_cons_of_neg (by simpa using hq)]; rfl)
            have HH : Hid (Calls Tryz.prog 51 #[.slice av l.length cvv, .int .i64 x.uid, .int .i64 la] X (fun e w' => e = .returned (.bool (hasB l x.uid (lastI (lfR R)))) ∧ Below X.heap.size X w')) := Lib.hid (by rw [HLa.out]; exact refHas_any _ l x.uid (lastI (lfR R)) X (HRg.out.on ho.below))
            have HOX := Lib.hid ho
            have HLl := Lib.hid (HO.out k)
            have C2 : Hid (∀ Y, Below X.heap.size X Y → Y.cell? ⟨P, 2, none⟩ = some (.slice (some ⟨g, 0, none⟩) R.length cr) ∧ Y.cell? ⟨g, k * 6, none⟩ = some (.int .i64 x.uid)) := Lib.hid (fun Y hY => ⟨by rw [hY.cell (p := ⟨P, 2, none⟩) (Nat.lt_of_lt_of_le hPw ho.below.size)]; exact c2x, by rw [hY.cell (p := ⟨g, k * 6, none⟩) (Nat.lt_of_lt_of_le hgw ho.below.size)]; exact k0⟩)
            clear hx hg HS ho
            generalize x.uid = xu at *
            generalize (lfR (R.take k)).filter (fun n => hasB l n (lastI (lfR R))) = L0 at *
            cases hh : hasB l xu (lastI (lfR R)) with
            | true =>
              rw [hh] at HH HT
              simp only [if_true] at HT
              clear hh
              go_wp2_with (first | (go_at_call 51; refine HH.out.mono ?_; rintro e w1 ⟨rfl, hb1⟩; obtain ⟨y2, y0⟩ := C2.out _ hb1; have HOY := Lib.hid (HOX.out.on hb1); clear hb1) | (at_builtin; refine appI rfl _ _ rfl xu HOY.out rfl rfl HLl.out ?_; intro v7 w7 ho7; have HO7 := Lib.hid ho7; clear ho7))
              go_roundw
              case rel => exact ⟨k + 1, _, _, rfl, rfl, by omega, by go_num, by rw [HT.out]; exact HO7.out⟩
              case measure => simp [intOf]; omega
            | false =>
              rw [hh] at HH HT
              simp only [Bool.false_eq_true, if_false, List.append_nil] at HT
              clear hh
              go_wp2_with (go_at_call 51; refine HH.out.mono ?_; rintro e w1 ⟨rfl, hb1⟩; have HOY := Lib.hid (HOX.out.on hb1); clear hb1)
              go_roundw
              case rel => exact ⟨k + 1, _, _, rfl, rfl, by omega, by go_num, by rw [HT.out]; exact HOY.out⟩
              case measure => simp [intOf]; omega
        · obtain rfl : k = R.length := by omega
          rw [List.take_length] at ho
          have HO5 : Hid (OwnI wr.heap.size lv' (ofL l (lfR R)) wr X) := Lib.hid ho
          clear ho
          go_wp2_with fail
          refine bodyPost_ret (v := .tuple #[lv', .bool false, .int .i64 0]) (by simp [results, Tryz.results18, go_sem]) rfl ⟨_, rfl, HO5.out⟩
set_option maxRecDepth 100000 in
set_option maxHeartbeats 4000000 in
theorem rFind_num (h : RV nn P val rv cv R C w) (hl : R.length ≤ 1000000) (v : Value) (l : List Rg) (hr : Rgs w v l) (hll : l.length ≤ 1000000) :
    Calls Tryz.prog 18 #[.pointer (some ⟨P, 0, none⟩), v, .bool false] w fun e w' => ∃ v', e = .returned (.tuple #[v', .bool (if (l.any fun p => !takesB R.length p) = true then false else (selN (fun m => hasB l m (R.length : Int)) 0 R).any RR.gone), .int .i64 (if (l.any fun p => !takesB R.length p) = true then 160 else 0)]) ∧ OwnI w.heap.size v' (if (l.any fun p => !takesB R.length p) = true then [] else (selN (fun m => hasB l m (R.length : Int)) 0 R).map RR.uid) w w' := by
  obtain ⟨av, cvv, rfl, hcs⟩ := hr.shape
  have HCS := Lib.hid hcs
  have HRg := Lib.hid hr
  obtain ⟨ar, cr, er⟩ := ownsRow_shape h.rows
  obtain ⟨_, _, c2, _⟩ := h.cells
  rw [er] at c2
  have HL : Hid (∀ k, k < R.length → ∃ (g : Nat) (x : RR), ar = some ⟨g, 0, none⟩ ∧ R[k]? = some x ∧ w.cell? ⟨g, k * 6, none⟩ = some (.int .i64 x.uid) ∧ w.cell? ⟨g, k * 6 + 2, none⟩ = some (.bool x.gone) ∧ g < w.heap.size) := Lib.hid (fun k hk => by
    obtain ⟨x, hx⟩ := rget hk
    obtain ⟨g, cap, e2, hg, ra⟩ := h.row_at hx
    rw [er] at e2
    injection e2 with p1 p2 p3
    exact ⟨g, x, p1, hx, ra.c0, ra.c2, hg⟩)
  have hPw : P < w.heap.size := lt_of_heap h.self
  have HAny : Hid (∀ k, k < l.length → takesB R.length (l.getD k (0, 0)) = false → (l.any fun p => !takesB R.length p) = true) := Lib.hid (fun k hk ht => by
    rw [List.any_eq_true]
    refine ⟨l.getD k (0, 0), ?_, by rw [ht]; rfl⟩
    rw [List.getD_eq_getElem?_getD, List.getElem?_eq_getElem hk]
    exact List.getElem_mem hk)
  have HNone : Hid ((∀ k, k < l.length → takesB R.length (l.getD k (0, 0)) = true) → (l.any fun p => !takesB R.length p) = false) := Lib.hid (fun hh => by
    rw [List.any_eq_false]
    intro p hp
    obtain ⟨i, hi, rfl⟩ := List.mem_iff_getElem.1 hp
    have := hh i hi
    rw [List.getD_eq_getElem?_getD, List.getElem?_eq_getElem hi] at this
    simpa using this)
  clear h hr hcs
  generalize hbf : (l.any fun p => !takesB R.length p) = bf at *
  clear hbf
  go_enter Tryz.func18, Tryz.ntmps18
  go_upto_region 16 with fail
  go_loopw [13] (fun i wr => ∃ (k : Nat) (X : World), X = wr ∧ k ≤ l.length ∧ i = .int .i64 k ∧ Below w.heap.size w X ∧ Hid (∀ j, j < k → takesB R.length (l.getD j (0, 0)) = true)) (fun i _ => l.length - (intOf i).toNat)
  case atStart => exact ⟨0, _, rfl, Nat.zero_le _, rfl, Below.refl _ _, Lib.hid (fun j hj => by omega)⟩
  case round =>
    obtain ⟨k, X, hX, hk, rfl, hbX, HK⟩ := hrel
    subst hX
    have c2x : X.cell? ⟨P, 2, none⟩ = some (.slice ar R.length cr) := by rw [hbX.cell (p := ⟨P, 2, none⟩) hPw]; exact c2
    by_cases hlt : k < l.length
    · have hlti : (k : Int) < (l.length : Int) := by omega
      obtain ⟨gs, os, rfl, hgs, hcc⟩ := HCS.out (by omega)
      obtain ⟨s1, s2⟩ := hcc k hlt
      rw [← hbX.cell (p := ⟨gs, os + k * 2, none⟩) hgs] at s1
      rw [← hbX.cell (p := ⟨gs, os + k * 2 + 1, none⟩) hgs] at s2
      have HBd : Hid (∀ Y, Below X.heap.size X Y → Calls Tryz.prog 52 #[rgV (l.getD k (0, 0)).1 (l.getD k (0, 0)).2, .int .i64 (R.length : Int)] Y (fun e w' => e = .returned (.bool (!takesB R.length (l.getD k (0, 0)))) ∧ Below w.heap.size w w')) := Lib.hid (fun Y hY => by
        refine (bad_any _ _ R.length Y).mono ?_
        rintro e w' ⟨rfl, hb⟩
        exact ⟨rfl, hbX.trans ((hY.trans (hb.mono hY.size)).mono hbX.size)⟩)
      have HA := Lib.hid (HAny.out k hlt)
      have HKs : Hid (takesB R.length (l.getD k (0, 0)) = true → ∀ j, j < k + 1 → takesB R.length (l.getD j (0, 0)) = true) := Lib.hid (fun ht j hj => by
        by_cases e : j = k
        · rw [e]; exact ht
        · exact HK.out j (by omega))
      clear hcc hbX
      generalize takesB R.length (l.getD k (0, 0)) = tb at *
      generalize (l.getD k (0, 0)).1 = xa at *
      generalize (l.getD k (0, 0)).2 = xb at *
      cases tb with
      | false =>
        obtain rfl : bf = true := HA.out rfl
        go_upto_region 18 with fail
        go_region_with (go_at_call 52; refine (HBd.out _ (by first | exact Below.refl _ _ | exact (Below.refl _ _).drew)).mono ?_; rintro e w4 ⟨rfl, hb4⟩; have HB4 := Lib.hid hb4; clear hb4)
        all_goals
          go_wp2_with fail
          refine bodyPost_ret (v := .tuple #[.slice none 0 0, .bool false, .int .i64 160]) (by simp [results, Tryz.results18, go_sem]) rfl ⟨_, rfl, OwnI.nil HB4.out HB4.out.size⟩
      | true =>
        have HKt := Lib.hid (HKs.out rfl)
        go_upto_region 18 with fail
        go_region_with (go_at_call 52; refine (HBd.out _ (by first | exact Below.refl _ _ | exact (Below.refl _ _).drew)).mono ?_; rintro e w4 ⟨rfl, hb4⟩; have HB4 := Lib.hid hb4; clear hb4)
        all_goals
          go_wp2_with fail
          go_roundw
          case rel => exact ⟨k + 1, _, rfl, by omega, by go_num, HB4.out, HKt⟩
          case measure => simp [intOf]; omega
    · obtain rfl : k = l.length := by omega
      obtain rfl : bf = false := HNone.out HK.out
      have HBX := Lib.hid hbX
      have hXs : w.heap.size ≤ X.heap.size := hbX.size
      clear hbX HAny HNone HK
      go_upto_region 22 with fail
      go_loopw [9, 14, 15] (fun lv gg i wx => ∃ (k : Nat) (lv' : Value) (Y : World), Y = wx ∧ lv' = lv ∧ k ≤ R.length ∧ i = .int .i64 k ∧ gg = .bool ((selN (fun m => hasB l m (R.length : Int)) 0 (R.take k)).any RR.gone) ∧ OwnI w.heap.size lv' ((selN (fun m => hasB l m (R.length : Int)) 0 (R.take k)).map RR.uid) w Y) (fun _ _ i _ => R.length - (intOf i).toNat)
      case atStart => exact ⟨0, _, _, rfl, rfl, Nat.zero_le _, rfl, rfl, OwnI.nil HBX.out hXs⟩
      case round =>
        obtain ⟨k, lv', Y, hY, hlv, hk2, rfl, rfl, ho⟩ := hrel
        subst hY hlv
        have c2y : Y.cell? ⟨P, 2, none⟩ = some (.slice ar R.length cr) := by rw [ho.below.cell (p := ⟨P, 2, none⟩) hPw]; exact c2
        by_cases hlt : k < R.length
        · have hlti : (k : Int) < (R.length : Int) := by omega
          have hkw : IntKind.i64.wrap ((k : Int) + 1) = (k : Int) + 1 := by simp only [IntKind.wrap, IntKind.signed, IntKind.bits]; simp; omega
          obtain ⟨g, x, rfl, hx, k0, k2, hgw⟩ := HL.out k hlt
          have HT : Hid (selN (fun m => hasB l m (R.length : Int)) 0 (R.take (k + 1)) = selN (fun m => hasB l m (R.length : Int)) 0 (R.take k) ++ (if hasB l ((k : Int) + 1) (R.length : Int) = true then [x] else [])) := Lib.hid (by
            rw [takeR_snoc hx, selN_snoc]
            have : ((0 + (R.take k).length : Nat) : Int) = (k : Int) := by rw [List.length_take]; omega
            rw [this])
          have HH : Hid (Calls Tryz.prog 51 #[.slice av l.length cvv, .int .i64 ((k : Int) + 1), .int .i64 (R.length : Int)] Y (fun e w' => e = .returned (.bool (hasB l ((k : Int) + 1) (R.length : Int))) ∧ Below Y.heap.size Y w')) := Lib.hid (refHas_any _ l _ _ Y (HRg.out.on ho.below))
          have HOY := Lib.hid ho
          have HLl : Hid (((selN (fun m => hasB l m (R.length : Int)) 0 (R.take k)).map RR.uid).length + 1 ≤ 17592186044416) := Lib.hid (by
            have key : ∀ (Q : List RR) (i : Nat), (selN (fun m => hasB l m (R.length : Int)) i Q).length ≤ Q.length := by
              intro Q
              induction Q with
              | nil => intro i; simp [selN]
              | cons q Q ih =>
                intro i
                have := ih (i + 1)
                show (_ ++ selN _ (i + 1) Q).length ≤ _
                rw [List.length_append, List.length_cons]
                split <;> simp <;> omega
            have h1 := key (R.take k) 0
            rw [List.length_take] at h1
            rw [List.length_map]
            omega)
          have C2 : Hid (∀ Z, Below Y.heap.size Y Z → Z.cell? ⟨P, 2, none⟩ = some (.slice (some ⟨g, 0, none⟩) R.length cr) ∧ Z.cell? ⟨g, k * 6, none⟩ = some (.int .i64 x.uid) ∧ Z.cell? ⟨g, k * 6 + 2, none⟩ = some (.bool x.gone)) := Lib.hid (fun Z hZ => by
            have hb := ho.below.trans (hZ.mono ho.below.size)
            exact ⟨by rw [hb.cell (p := ⟨P, 2, none⟩) hPw]; exact c2, by rw [hb.cell (p := ⟨g, k * 6, none⟩) hgw]; exact k0, by rw [hb.cell (p := ⟨g, k * 6 + 2, none⟩) hgw]; exact k2⟩)
          have C2W : Hid (∀ Z, Below w.heap.size w Z → Z.cell? ⟨P, 2, none⟩ = some (.slice (some ⟨g, 0, none⟩) R.length cr) ∧ Z.cell? ⟨g, k * 6 + 2, none⟩ = some (.bool x.gone)) := Lib.hid (fun Z hb => ⟨by rw [hb.cell (p := ⟨P, 2, none⟩) hPw]; exact c2, by rw [hb.cell (p := ⟨g, k * 6 + 2, none⟩) hgw]; exact k2⟩)
          have HMp : Hid ((selN (fun m => hasB l m (R.length : Int)) 0 (R.take k) ++ [x]).map RR.uid = (selN (fun m => hasB l m (R.length : Int)) 0 (R.take k)).map RR.uid ++ [x.uid]) := Lib.hid (by simp)
          have HAg : Hid ((selN (fun m => hasB l m (R.length : Int)) 0 (R.take k) ++ [x]).any RR.gone = ((selN (fun m => hasB l m (R.length : Int)) 0 (R.take k)).any RR.gone || x.gone)) := Lib.hid (by simp)
          clear hx ho k0 k2
          cases hh : hasB l ((k : Int) + 1) (R.length : Int) with
          | true =>
            rw [hh] at HH HT
            simp only [if_true] at HT
            rw [← HT.out] at HMp HAg
            have HMq := HMp
            have HAq := HAg
            clear hh HT HMp HAg
            generalize (selN (fun m => hasB l m (R.length : Int)) 0 (R.take k)).map RR.uid = L0 at *
            generalize (selN (fun m => hasB l m (R.length : Int)) 0 (R.take k)).any RR.gone = g0 at *
            generalize x.uid = xu at *
            generalize x.gone = xg at *
            cases g0 with
            | true =>
              go_wp2_with (first | (go_at_call 51; refine HH.out.mono ?_; rintro e w1 ⟨rfl, hb1⟩; obtain ⟨y2, y0, yg⟩ := C2.out _ hb1; have HOZ := Lib.hid (HOY.out.on hb1); clear hb1) | (at_builtin; refine appI rfl _ _ rfl xu HOZ.out rfl rfl HLl.out ?_; intro v7 w7 ho7; have HO7 := Lib.hid ho7; obtain ⟨z2, zg⟩ := C2W.out _ ho7.below; clear ho7))
              go_roundw
              case rel => exact ⟨k + 1, _, _, rfl, rfl, by omega, by go_num, by rw [HAq.out]; rfl, by rw [HMq.out]; exact HO7.out⟩
              case measure => simp [intOf]; omega
            | false =>
              go_wp2_with (first | (go_at_call 51; refine HH.out.mono ?_; rintro e w1 ⟨rfl, hb1⟩; obtain ⟨y2, y0, yg⟩ := C2.out _ hb1; have HOZ := Lib.hid (HOY.out.on hb1); clear hb1) | (at_builtin; refine appI rfl _ _ rfl xu HOZ.out rfl rfl HLl.out ?_; intro v7 w7 ho7; have HO7 := Lib.hid ho7; obtain ⟨z2, zg⟩ := C2W.out _ ho7.below; clear ho7))
              go_roundw
              case rel => exact ⟨k + 1, _, _, rfl, rfl, by omega, by go_num, by rw [HAq.out]; rfl, by rw [HMq.out]; exact HO7.out⟩
              case measure => simp [intOf]; omega
          | false =>
            rw [hh] at HH HT
            simp only [Bool.false_eq_true, if_false, List.append_nil] at HT
            clear hh HMp HAg
            have HOZ : Hid (∀ w1, Below Y.heap.size Y w1 → OwnI w.heap.size lv' ((selN (fun m => hasB l m (R.length : Int)) 0 (R.take (k + 1))).map RR.uid) w w1) := Lib.hid (fun w1 hb1 => by rw [HT.out]; exact HOY.out.on hb1)
            have HGG : Hid ((selN (fun m => hasB l m (R.length : Int)) 0 (R.take k)).any RR.gone = (selN (fun m => hasB l m (R.length : Int)) 0 (R.take (k + 1))).any RR.gone) := Lib.hid (by rw [HT.out])
            generalize (selN (fun m => hasB l m (R.length : Int)) 0 (R.take k)).any RR.gone = g0 at *
            go_wp2_with (go_at_call 51; refine HH.out.mono ?_; rintro e w1 ⟨rfl, hb1⟩; have HOW := Lib.hid (HOZ.out _ hb1); clear hb1)
            go_roundw
            case rel => exact ⟨k + 1, _, _, rfl, rfl, by omega, by go_num, by rw [HGG.out], HOW.out⟩
            case measure => simp [intOf]; omega
        · obtain rfl : k = R.length := by omega
          rw [List.take_length] at ho
          rw [List.take_length]
          have HO5 := Lib.hid ho
          clear ho
          generalize hg0 : (selN (fun m => hasB l m (R.length : Int)) 0 R).any RR.gone = g0 at *
          have HG0 := Lib.hid hg0
          clear hg0
          go_wp2_with fail
          refine bodyPost_ret (v := .tuple #[lv', .bool g0, .int .i64 0]) (by simp [results, Tryz.results18, go_sem]) rfl ⟨lv', by rw [← HG0.out], HO5.out⟩
end
section
variable {P : Nat} {V : PV} {fp : List Nat} {w : World} {N : Nat}
theorem Find_RW {nn : Bool} (h : RWm nn P V fp w) (hk : PVok V N) (hN : N ≤ 1000000) (v : Value) (l : List Rg) (hr : Rgs w v l) (hl : l.length ≤ 1000000) (uid : Bool) :
    Calls Tryz.prog 18 #[.pointer (some ⟨P, 0, none⟩), v, .bool uid] w fun e w' => ∃ v', e = .returned (.tuple #[v', .bool (findG V l uid), .int .i64 (findE V l uid)]) ∧ OwnI w.heap.size v' (findL V l uid) w w' := by
  obtain ⟨rv, cv, R, h1, h2, rfl, _⟩ := h
  have hlen := hk.len
  have hrl := rlen_pl h2
  cases uid with
  | true =>
    refine (rFind_uid h1 (by omega) v l hr).mono ?_
    rintro e w' ⟨v', rfl, ho⟩
    rw [lfR_left h2] at ho
    exact ⟨v', rfl, ho⟩
  | false =>
    refine (rFind_num h1 (by omega) v l hr hl).mono ?_
    rintro e w' ⟨v', rfl, ho⟩
    have hs := find_sel (V := V) (by omega) l
    have hs2 : selN (fun m => hasB l m (V.rows.length : Int)) 0 V.rows = (selN (fun m => hasB l m (R.length : Int)) 0 R).map RR.pl := by
      rw [← selN_map, h2, hrl]
    rw [hs2] at hs
    have e1 : (selN (fun m => hasB l m (R.length : Int)) 0 R).map RR.uid = (numL V.rows.length l).map (fun k => (rowP V k).uid) := by
      have := congrArg (List.map PR.uid) hs
      rw [List.map_map, List.map_map] at this
      exact this.symm
    have e2 : (selN (fun m => hasB l m (R.length : Int)) 0 R).any RR.gone = (numL V.rows.length l).any (fun k => (rowP V k).gone) := by
      have := congrArg (fun q => List.any q PR.gone) hs
      simp only [List.any_map] at this
      exact this.symm
    rw [e1] at ho
    rw [e2]
    rw [hrl] at ho
    rw [hrl]
    refine ⟨v', ?_, ?_⟩
    · unfold findG findE badF
      rfl
    · unfold findL badF
      exact ho
end
end Go.Proofs.YtflkhnmggmfhfaaGreat
