/- postbagref1: Lower, Same, of any texts. -/
import Derived.Test.YtbncaiocmklgnaaGreatDoorV11s
import Derived.Test.YtbncaiocmklgnaaGreatDoorZv
namespace Go.Proofs.YtbncaiocmklgnaaGreatDoor
open Go.RowKit Go.Shelf Go.Lib

set_option maxHeartbeats 400000 in
theorem refLower_any (s : ByteArray) (w : World) (hs : s.size ≤ 140737488355328) :
    Calls Tryz.prog 52 #[.string s] w fun e w' => e = .returned (.string (S (lower (L s)))) ∧ Below w.heap.size w w' := by
  go_enter Tryz.func52, Tryz.ntmps52
  go_wp2
  go_loopw [3, 4] (fun v i wr => ∃ k : Nat, k ≤ s.size ∧ i = .int .i64 k ∧ Own w.heap.size v (lower ((L s).take k)) w wr) (fun _ i _ => s.size - (intOf i).toNat)
  case atStart => exact ⟨0, Nat.zero_le _, rfl, Own.nil (Below.refl _ _) (Nat.le_refl _)⟩
  case round =>
    obtain ⟨k, hk, rfl, hown⟩ := hrel
    by_cases hlt : k < s.size
    · have ea := get_bt s k hlt
      have c0 : (bt (L s) k).toNat < 256 := bt_lt _ _
      have e1 : lower ((L s).take (k + 1)) = lower ((L s).take k) ++ [sm (bt (L s) k)] := by
        rw [take_snoc (L s) k hlt]; simp [lower]
      have hl : (lower ((L s).take k)).length + 1 ≤ 140737488355328 := by
        have : (lower ((L s).take k)).length ≤ k := by simp [lower]; omega
        omega
      have hsm := sm_toNat (bt (L s) k)
      have HE := Lib.hid e1
      have HL := Lib.hid hl
      clear e1 hl
      unfold smI at hsm
      by_cases h1 : (65 : Int) ≤ ((bt (L s) k).toNat : Int)
      · by_cases h2 : ((bt (L s) k).toNat : Int) ≤ 90
        · rw [if_pos ⟨h1, h2⟩] at hsm
          have HS := Lib.hid hsm.symm
          clear hsm
          generalize lower ((L s).take k) = o at *
          go_wp2_with (at_builtin; refine app1 rfl _ _ rfl _ (sm (bt (L s) k)) hown HS.out rfl rfl HL.out ?_; intro v2 w2 hown2)
          go_roundw
          case rel => exact ⟨k + 1, by omega, by go_num, by rw [HE.out]; exact hown2⟩
          case measure => simp [intOf]; omega
        · rw [if_neg (by omega)] at hsm
          have HS := Lib.hid hsm.symm
          clear hsm
          generalize lower ((L s).take k) = o at *
          go_wp2_with (at_builtin; refine app1 rfl _ _ rfl _ (sm (bt (L s) k)) hown HS.out rfl rfl HL.out ?_; intro v2 w2 hown2)
          go_roundw
          case rel => exact ⟨k + 1, by omega, by go_num, by rw [HE.out]; exact hown2⟩
          case measure => simp [intOf]; omega
      · rw [if_neg (by omega)] at hsm
        have HS := Lib.hid hsm.symm
        clear hsm
        generalize lower ((L s).take k) = o at *
        go_wp2_with (at_builtin; refine app1 rfl _ _ rfl _ (sm (bt (L s) k)) hown HS.out rfl rfl HL.out ?_; intro v2 w2 hown2)
        go_roundw
        case rel => exact ⟨k + 1, by omega, by go_num, by rw [HE.out]; exact hown2⟩
        case measure => simp [intOf]; omega
    · rw [List.take_of_length_le (by rw [L_length]; omega)] at hown
      have hcv := hown.back
      go_wp2
      go_ret
      exact ⟨rfl, hown.below⟩

set_option maxHeartbeats 400000 in
theorem refSame_any (a b : ByteArray) (w : World) (ha : a.size ≤ 140737488355328) (hb : b.size ≤ 140737488355328) :
    Calls Tryz.prog 48 #[.string a, .string b] w fun e w' => e = .returned (.bool (same (L a) (L b))) ∧ Below w.heap.size w w' := by
  go_enter Tryz.func48, Tryz.ntmps48
  go_wp2_with fail
  refine (refLower_any a _ ha).mono ?_
  rintro e w1 ⟨rfl, hb1⟩
  go_wp2_with fail
  refine (refLower_any b _ hb).mono ?_
  rintro e w2 ⟨rfl, hb2⟩
  go_wp2
  go_ret
  exact ⟨ret_bool (by rw [toList_L, toList_L, L_S, L_S]; rfl), hb1.trans (hb2.mono hb1.size)⟩
end Go.Proofs.YtbncaiocmklgnaaGreatDoor

/- postbagref11: system, which. -/
namespace Go.Proofs.YtbncaiocmklgnaaGreatDoor
open Go.RowKit Go.Lib

def sysN (i : Nat) : ByteArray := sysB.getD i ByteArray.empty
/-- The place of a flag of the system. -/
def whichI (l : List UInt8) : Int := if same (L (sysN 0)) l = true then 0 else if same (L (sysN 1)) l = true then 1 else if same (L (sysN 2)) l = true then 2 else if same (L (sysN 3)) l = true then 3 else if same (L (sysN 4)) l = true then 4 else -1
theorem whichI_at (l : List UInt8) (k : Nat) (hk : k < 5) (h : ∀ j, j < k → same (L (sysN j)) l = false) (hs : same (L (sysN k)) l = true) : whichI l = (k : Int) := by
  unfold whichI
  match k, hk with
  | 0, _ => rw [if_pos hs]; rfl
  | 1, _ => rw [if_neg (by rw [h 0 (by decide)]; decide), if_pos hs]; rfl
  | 2, _ => rw [if_neg (by rw [h 0 (by decide)]; decide), if_neg (by rw [h 1 (by decide)]; decide), if_pos hs]; rfl
  | 3, _ => rw [if_neg (by rw [h 0 (by decide)]; decide), if_neg (by rw [h 1 (by decide)]; decide), if_neg (by rw [h 2 (by decide)]; decide), if_pos hs]; rfl
  | 4, _ => rw [if_neg (by rw [h 0 (by decide)]; decide), if_neg (by rw [h 1 (by decide)]; decide), if_neg (by rw [h 2 (by decide)]; decide), if_neg (by rw [h 3 (by decide)]; decide), if_pos hs]; rfl
theorem whichI_no (l : List UInt8) (h : ∀ j, j < 5 → same (L (sysN j)) l = false) : whichI l = -1 := by
  unfold whichI
  rw [if_neg (by rw [h 0 (by decide)]; decide), if_neg (by rw [h 1 (by decide)]; decide), if_neg (by rw [h 2 (by decide)]; decide), if_neg (by rw [h 3 (by decide)]; decide), if_neg (by rw [h 4 (by decide)]; decide)]
abbrev sysC : Array Value := #[.string ⟨#[92, 65, 110, 115, 119, 101, 114, 101, 100]⟩, .string ⟨#[92, 68, 101, 108, 101, 116, 101, 100]⟩, .string ⟨#[92, 68, 114, 97, 102, 116]⟩, .string ⟨#[92, 70, 108, 97, 103, 103, 101, 100]⟩, .string ⟨#[92, 83, 101, 101, 110]⟩]
theorem system_any (w : World) : Calls Tryz.prog 32 #[] w fun e w' => e = .returned (.slice (some ⟨w.heap.size, 0, none⟩) 5 5) ∧ w' = w.alloc (.cells sysC 9) := by
  go_enter Tryz.func32, Tryz.ntmps32
  go_wp2
  go_ret
  exact ⟨rfl, rfl⟩
theorem sys_cell {X : World} {b : Nat} (h : X.heap[b]? = some (.cells sysC 9 (0, 0))) (k : Nat) (hk : k < 5) : X.cell? ⟨b, k, none⟩ = some (.string (sysN k)) := by
  match k, hk with
  | 0, _ => exact cell_of h 0
  | 1, _ => exact cell_of h 1
  | 2, _ => exact cell_of h 2
  | 3, _ => exact cell_of h 3
  | 4, _ => exact cell_of h 4
theorem sysN_size (k : Nat) (hk : k < 5) : (sysN k).size ≤ 140737488355328 := by
  match k, hk with
  | 0, _ => decide
  | 1, _ => decide
  | 2, _ => decide
  | 3, _ => decide
  | 4, _ => decide
set_option maxHeartbeats 2000000 in
theorem which_any (f : ByteArray) (w : World) (hs : f.size ≤ 140737488355328) :
    Calls Tryz.prog 29 #[.string f] w fun e w' => e = .returned (.int .i64 (whichI (L f))) ∧ Below w.heap.size w w' := by
  obtain ⟨W1, hW1⟩ : ∃ W1, w.alloc (.cells sysC 9) = W1 := ⟨_, rfl⟩
  have h1 : W1.heap[w.heap.size]? = some (.cells sysC 9 (0, 0)) := by rw [← hW1]; exact heap_new _ _
  have hb1 : Below w.heap.size w W1 := by rw [← hW1]; exact below_box (Below.refl _ _) _
  have HS := Lib.hid (system_any w)
  rw [hW1] at HS
  have HC : Hid (∀ X, Below W1.heap.size W1 X → ∀ k, k < 5 → X.cell? ⟨w.heap.size, k, none⟩ = some (.string (sysN k))) := Lib.hid (fun X hX k hk => sys_cell (by rw [hX.block _ (lt_of_heap h1)]; exact h1) k hk)
  have HB := Lib.hid hb1
  have HR := Lib.hid (fun k (hk : k < 5) X => refSame_any (sysN k) f X (sysN_size k hk) hs)
  have HW := Lib.hid (fun k => whichI_at (L f) k)
  have HN := Lib.hid (whichI_no (L f))
  clear hW1 h1 hb1 hs
  obtain ⟨wi, hwi⟩ : ∃ wi, whichI (L f) = wi := ⟨_, rfl⟩
  rw [hwi] at HW HN ⊢
  clear hwi
  generalize L f = lf at *
  go_enter Tryz.func29, Tryz.ntmps29
  go_wp2_with (go_at_call 32; refine HS.out.mono ?_; rintro e w2 ⟨rfl, hw2⟩; subst w2)
  go_loopw [4] (fun i wr => ∃ (k : Nat) (X : World), X = wr ∧ k ≤ 5 ∧ i = .int .i64 k ∧ (∀ j, j < k → same (L (sysN j)) lf = false) ∧ Below W1.heap.size W1 X) (fun i _ => 5 - (intOf i).toNat)
  case atStart => exact ⟨0, _, rfl, by decide, rfl, fun j hj => absurd hj (Nat.not_lt_zero _), Below.refl _ _⟩
  case round =>
    obtain ⟨k, X, hX, hk, rfl, hno, hb⟩ := hrel
    subst hX
    have HX := Lib.hid hb
    have HNo := Lib.hid hno
    clear hno
    by_cases hlt : k < 5
    · have y := HC.out X hb k hlt
      have HK := Lib.hid (HR.out k hlt)
      have hki : (k : Int) < 5 := by omega
      obtain ⟨t, ht⟩ : ∃ t, sysN k = t := ⟨_, rfl⟩
      obtain ⟨b, hbb⟩ : ∃ b, same (L (sysN k)) lf = b := ⟨_, rfl⟩
      rw [hbb] at HK
      rw [ht] at y HK
      have HBb := Lib.hid hbb
      clear hb hbb ht
      cases b with
      | true =>
        go_wp2_with (go_at_call 48; refine (HK.out _).mono ?_; rintro e w5 ⟨rfl, hb5⟩; have HB5 := Lib.hid hb5; clear hb5)
        go_ret
        exact ⟨by rw [HW.out k hlt HNo.out HBb.out]; rfl, (HB.out.trans (HX.out.mono HB.out.size)).trans (HB5.out.mono (Nat.le_trans HB.out.size HX.out.size))⟩
      | false =>
        go_wp2_with (go_at_call 48; refine (HK.out _).mono ?_; rintro e w5 ⟨rfl, hb5⟩; have HB5 := Lib.hid hb5; clear hb5)
        go_roundw
        case rel => exact ⟨k + 1, _, rfl, hlt, by go_num, fun j hj => by
          by_cases e : j = k
          · rw [e]; exact HBb.out
          · exact HNo.out j (by omega), HX.out.trans (HB5.out.mono HX.out.size)⟩
        case measure => simp [intOf]; omega
    · have hki : ¬ (k : Int) < 5 := by omega
      have hk5 : k = 5 := by omega
      clear hb
      go_wp2_with fail
      go_ret
      exact ⟨by rw [HN.out (fun j hj => HNo.out j (by omega))]; rfl, HB.out.trans (HX.out.mono HB.out.size)⟩
end Go.Proofs.YtbncaiocmklgnaaGreatDoor

/- postbagref11: put (r11cgen.py out of R11c.src). -/
namespace Go.Proofs.YtbncaiocmklgnaaGreatDoor
open Go.RowKit Go.Lib

/-- One text below another, in small letters. -/
def ltB (x y : ByteArray) : Bool := Op.bytesLess (S (lower (L x))).toList (S (lower (L y))).toList
/-- A list is the given one, or it lies in memory from a place on. -/
def PutLo (B : Nat) (v v' : Value) : Prop := ∀ a n c, v' = .slice (some a) n c → v' = v ∨ B ≤ a.block
theorem OwnT.putLo {B : Nat} {v v' : Value} {l : List ByteArray} {W0 w : World} (h : OwnT B v' l W0 w) : PutLo B v v' := by
  intro a n c e
  rcases h.row.2 with ⟨rfl, _⟩ | ⟨g, cap, cur, rfl, hB, _⟩
  · cases e
  · cases e
    exact .inr hB
/-- A keyword among others, where it belongs. -/
def putGo (x : ByteArray) : Bool → List ByteArray → List ByteArray
  | d, [] => cond d [] [x]
  | d, y :: r => cond (!d && ltB x y) (x :: y :: putGo x true r) (y :: putGo x d r)
def sameB (x y : ByteArray) : Bool := same (L x) (L y)
def putL (ws : List ByteArray) (x : ByteArray) : List ByteArray := cond (ws.any (fun y => sameB y x)) ws (putGo x false ws)
/-- What has been put behind some words. -/
def putS (x : ByteArray) (p : List ByteArray × Bool) (y : ByteArray) : List ByteArray × Bool := cond (!p.2 && ltB x y) (p.1 ++ [x, y], true) (p.1 ++ [y], p.2)
def putAt (x : ByteArray) (ws : List ByteArray) : List ByteArray × Bool := ws.foldl (putS x) ([], false)
theorem putAt_snoc (x : ByteArray) (ws : List ByteArray) (y : ByteArray) : putAt x (ws ++ [y]) = putS x (putAt x ws) y := by
  unfold putAt
  rw [List.foldl_append]
  rfl
theorem putGo_fold (x : ByteArray) (ws : List ByteArray) : ∀ (p : List ByteArray × Bool), p.1 ++ putGo x p.2 ws = (ws.foldl (putS x) p).1 ++ cond (ws.foldl (putS x) p).2 [] [x] := by
  induction ws with
  | nil => intro p; rfl
  | cons y r ih =>
    intro p
    rw [List.foldl_cons, ← ih, putGo]
    unfold putS
    cases hc : (!p.2 && ltB x y) <;> simp
theorem putAt_all (x : ByteArray) (ws : List ByteArray) : putGo x false ws = (putAt x ws).1 ++ cond (putAt x ws).2 [] [x] := by
  have := putGo_fold x ws ([], false)
  rw [List.nil_append] at this
  exact this
theorem putS_len (x : ByteArray) (p : List ByteArray × Bool) (y : ByteArray) : (putS x p y).1.length ≤ p.1.length + 2 := by
  unfold putS
  cases (!p.2 && ltB x y) <;> simp
theorem putAt_len (x : ByteArray) (ws : List ByteArray) : ∀ k, k ≤ ws.length → (putAt x (ws.take k)).1.length ≤ 2 * k := by
  intro k
  induction k with
  | zero => intro _; simp [putAt]
  | succ k ih =>
    intro hk
    have h1 := ih (by omega)
    rw [List.take_add_one, List.getElem?_eq_getElem (by omega)]
    have h2 := putS_len x (putAt x (ws.take k)) ws[k]
    have e : ws.take k ++ (some ws[k]).toList = ws.take k ++ [ws[k]] := rfl
    rw [e, putAt_snoc]
    omega
set_option maxHeartbeats 8000000 in
theorem put_any (v : Value) (ws : List ByteArray) (x : ByteArray) (w : World) (h : Strs w v ws) (hl : ws.length ≤ 1000) (hx : x.size ≤ 140737488355328) (hz : ∀ y, y ∈ ws → y.size ≤ 140737488355328) :
    Calls Tryz.prog 31 #[v, .string x] w fun e w' => ∃ v', e = .returned v' ∧ Strs w' v' (putL ws x) ∧ Below w.heap.size w w' ∧ PutLo w.heap.size v v' := by
  obtain ⟨ao, cap, rfl, hk⟩ := h.cells
  have HS := Lib.hid h
  have HC := Lib.hid hk
  have HZ := Lib.hid (And.intro hl (And.intro hx hz))
  have hmi : (ws.length : Int) ≤ 1000 := by omega
  clear h hk hl hx hz
  obtain ⟨m, hm⟩ : ∃ m, ws.length = m := ⟨_, rfl⟩
  have HM := Lib.hid hm
  rw [hm] at hmi HC ⊢
  clear hm
  go_enter Tryz.func31, Tryz.ntmps31
  go_wp2_with fail
  go_loopw [5, 6, 7] (fun vo vd vi wr => ∃ (k : Nat) (X : World), X = wr ∧ k ≤ m ∧ vi = .int .i64 k ∧ vd = .bool (putAt x (ws.take k)).2 ∧ (∀ j, j < k → sameB (ws.getD j ByteArray.empty) x = false) ∧ OwnT w.heap.size vo (putAt x (ws.take k)).1 w X) (fun _ _ i _ => m - (intOf i).toNat)
  case atStart => exact ⟨0, _, rfl, Nat.zero_le _, rfl, rfl, fun j hj => absurd hj (Nat.not_lt_zero _), OwnT.nil (Below.refl _ _) (Nat.le_refl _)⟩
  case round =>
    obtain ⟨k, X0, hX, hk, rfl, rfl, hno, hown⟩ := hrel
    subst hX
    have hk2 : (k : Int) ≤ 1000 := by omega
    have HO := Lib.hid hown
    have HNo := Lib.hid hno
    have HLn : Hid ((putAt x (ws.take k)).1.length + 4 ≤ 1099511627776) := Lib.hid (by
      have := putAt_len x ws k (by rw [HM.out]; exact hk)
      omega)
    clear hno
    by_cases hlt : k < m
    · obtain ⟨b, off, hao, hbl, hcl⟩ := HC.out k hlt
      have hkw : k < ws.length := by rw [HM.out]; exact hlt
      have HMem : Hid (ws.getD k ByteArray.empty ∈ ws) := Lib.hid (by
        rw [List.getD_eq_getElem?_getD, List.getElem?_eq_getElem hkw]
        exact List.getElem_mem hkw)
      have HSn : Hid (putAt x (ws.take (k + 1)) = putS x (putAt x (ws.take k)) (ws.getD k ByteArray.empty)) := Lib.hid (by
        rw [List.take_add_one, List.getElem?_eq_getElem hkw]
        have e : ws.take k ++ (some ws[k]).toList = ws.take k ++ [ws[k]] := rfl
        rw [e, putAt_snoc, List.getD_eq_getElem?_getD, List.getElem?_eq_getElem hkw]
        rfl)
      have HSm := Lib.hid (fun X => refSame_any (ws.getD k ByteArray.empty) x X (HZ.out.2.2 _ HMem.out) HZ.out.2.1)
      have HLx := Lib.hid (fun X => refLower_any x X HZ.out.2.1)
      have HLt := Lib.hid (fun X => refLower_any (ws.getD k ByteArray.empty) X (HZ.out.2.2 _ HMem.out))
      have HYb : Hid (∀ X, Below w.heap.size w X → X.cell? ⟨b, off + k, none⟩ = some (.string (ws.getD k ByteArray.empty))) := Lib.hid (fun X hX => by rw [hX.cell (p := ⟨b, off + k, none⟩) hbl]; exact hcl)
      have y0 := HYb.out X0 hown.below
      have hki : (k : Int) < (m : Int) := by omega
      have HAny : Hid (sameB (ws.getD k ByteArray.empty) x = true → putL ws x = ws) := Lib.hid (fun e => by
        unfold putL
        have : ws.any (fun y => sameB y x) = true := List.any_eq_true.2 ⟨_, HMem.out, e⟩
        rw [this]
        rfl)
      have hlt' : Op.bytesLess (S (lower (L x))).toList (S (lower (L (ws.getD k ByteArray.empty)))).toList = ltB x (ws.getD k ByteArray.empty) := rfl
      have hsm' : same (L (ws.getD k ByteArray.empty)) (L x) = sameB (ws.getD k ByteArray.empty) x := rfl
      rw [hsm'] at HSm
      subst hao
      obtain ⟨t, ht⟩ : ∃ t, ws.getD k ByteArray.empty = t := ⟨_, rfl⟩
      rw [ht] at HSm HLt HYb y0 HAny hlt' HSn
      have HT := Lib.hid ht
      clear ht hsm' hcl hbl hkw
      obtain ⟨P, hP⟩ : ∃ P, putAt x (ws.take k) = P := ⟨_, rfl⟩
      rw [hP] at HSn HO HLn hown ⊢
      clear hP
      obtain ⟨pl, pd⟩ := P
      simp only at HO HLn hown ⊢
      obtain ⟨ao5, cap5, rfl⟩ := hown.shape
      cases hs : sameB t x with
      | true =>
        rw [hs] at HSm
        have HA2 := Lib.hid (HAny.out hs)
        clear hs hown
        go_wp2_with (go_at_call 48; refine (HSm.out _).mono ?_; rintro e w3 ⟨rfl, hb3⟩; have HB3 := Lib.hid hb3; clear hb3)
        go_ret
        have hbb : Below w.heap.size w w3 := HO.out.below.trans (HB3.out.mono HO.out.base)
        refine ⟨_, rfl, ?_, hbb, fun _ _ _ _ => .inl rfl⟩
        rw [HA2.out]
        have := HS.out.on hbb
        rw [HM.out] at this
        exact this
      | false =>
        rw [hs] at HSm
        have HNo2 : Hid (∀ j, j < k + 1 → sameB (ws.getD j ByteArray.empty) x = false) := Lib.hid (fun j hj => by
          by_cases e : j = k
          · rw [e, HT.out]; exact hs
          · exact HNo.out j (by omega))
        clear hs hown
        go_upto_region 8 with (go_at_call 48; refine (HSm.out _).mono ?_; rintro e w3 ⟨rfl, hb3⟩; have HO3 := Lib.hid (HO.out.on hb3); clear hb3)
        have HY : Hid (∀ X, Below w3.heap.size w3 X → X.cell? ⟨b, off + k, none⟩ = some (.string t)) := Lib.hid (fun X hX => HYb.out X (HO3.out.below.trans (hX.mono HO3.out.base)))
        have y3 := HY.out w3 (Below.refl _ _)
        clear y0 HSm HAny HNo
        cases pd with
        | true =>
          clear HLx HLt hlt'
          refine wp_region_N 11 (fun X => X = w3.drew) (by kernel_rfl) ?_
          refine wpAnyN_take (i := 0) (oi := { dst := some 21, op := Go.Op.move (Go.Operand.tmp 6), type := 4, pos := "ref.go:79", after := #[], guard := none }) (oL := { dst := some 32, op := Go.Op.pick (Go.Operand.tmp 23) (Go.Operand.tmp 31) (Go.Operand.const (Go.Value.bool false)), type := 4, pos := "ref.go:79", after := #[{ on := 2, ground := Go.Ground.data }, { on := 10, ground := Go.Ground.data }], guard := none }) (v := .bool true) rfl rfl (by kernel_rfl) (by kernel_rfl) (by kernel_rfl) (by kernel_rfl) (fun _ _ _ h => h) (Or.inl ⟨by kernel_rfl, ?_⟩) rfl ?_
          · (intro X hX; subst hX <;> (go_simp; try (with_reducible rfl)))
          (try simp only [Act.put, List.setIfInBounds_toArray, List.set_cons_zero, List.set_cons_succ])
          refine wpAnyN_take (i := 1) (oi := { dst := some 22, op := Go.Op.unOp Go.UnOp.not 4 (Go.Operand.tmp 21), type := 4, pos := "ref.go:79", after := #[{ on := 0, ground := Go.Ground.data }], guard := none }) (oL := { dst := some 32, op := Go.Op.pick (Go.Operand.tmp 23) (Go.Operand.tmp 31) (Go.Operand.const (Go.Value.bool false)), type := 4, pos := "ref.go:79", after := #[{ on := 2, ground := Go.Ground.data }, { on := 10, ground := Go.Ground.data }], guard := none }) (v := .bool false) rfl rfl (by kernel_rfl) (by kernel_rfl) (by kernel_rfl) (by kernel_rfl) (fun _ _ _ h => h) (Or.inl ⟨by kernel_rfl, ?_⟩) rfl ?_
          · (intro X hX; subst hX <;> (go_simp; try (with_reducible rfl)))
          (try simp only [Act.put, List.setIfInBounds_toArray, List.set_cons_zero, List.set_cons_succ])
          refine wpAnyN_take (i := 2) (oi := { dst := some 23, op := Go.Op.move (Go.Operand.tmp 22), type := 4, pos := "ref.go:79", after := #[{ on := 1, ground := Go.Ground.data }], guard := none }) (oL := { dst := some 32, op := Go.Op.pick (Go.Operand.tmp 23) (Go.Operand.tmp 31) (Go.Operand.const (Go.Value.bool false)), type := 4, pos := "ref.go:79", after := #[{ on := 2, ground := Go.Ground.data }, { on := 10, ground := Go.Ground.data }], guard := none }) (v := .bool false) rfl rfl (by kernel_rfl) (by kernel_rfl) (by kernel_rfl) (by kernel_rfl) (fun _ _ _ h => h) (Or.inl ⟨by kernel_rfl, ?_⟩) rfl ?_
          · (intro X hX; subst hX <;> (go_simp; try (with_reducible rfl)))
          (try simp only [Act.put, List.setIfInBounds_toArray, List.set_cons_zero, List.set_cons_succ])
          refine wpAnyN_take (i := 3) (oi := { dst := some 24, op := Go.Op.move (Go.Operand.tmp 1), type := 9, pos := "ref.go:79", after := #[{ on := 2, ground := Go.Ground.guard }], guard := some (2, true) }) (oL := { dst := some 32, op := Go.Op.pick (Go.Operand.tmp 23) (Go.Operand.tmp 31) (Go.Operand.const (Go.Value.bool false)), type := 4, pos := "ref.go:79", after := #[{ on := 2, ground := Go.Ground.data }, { on := 10, ground := Go.Ground.data }], guard := none }) (v := undef) rfl rfl (by kernel_rfl) (by kernel_rfl) (by kernel_rfl) (by kernel_rfl) (fun _ _ _ h => h) (Or.inr ⟨by kernel_rfl, rfl⟩) rfl ?_
          (try simp only [Act.put, List.setIfInBounds_toArray, List.set_cons_zero, List.set_cons_succ])
          refine wpAnyN_take (i := 4) (oi := { dst := some 25, op := Go.Op.call { callee := Go.Callee.value (Go.Operand.func 52), args := #[Go.Operand.tmp 24], argTypes := #[9] }, type := 9, pos := "ref.go:79", after := #[{ on := 3, ground := Go.Ground.data }, { on := 2, ground := Go.Ground.chain }, { on := 2, ground := Go.Ground.guard }], guard := some (2, true) }) (oL := { dst := some 32, op := Go.Op.pick (Go.Operand.tmp 23) (Go.Operand.tmp 31) (Go.Operand.const (Go.Value.bool false)), type := 4, pos := "ref.go:79", after := #[{ on := 2, ground := Go.Ground.data }, { on := 10, ground := Go.Ground.data }], guard := none }) (v := undef) rfl rfl (by kernel_rfl) (by kernel_rfl) (by kernel_rfl) (by kernel_rfl) (fun _ _ _ h => h) (Or.inr ⟨by kernel_rfl, rfl⟩) rfl ?_
          (try simp only [Act.put, List.setIfInBounds_toArray, List.set_cons_zero, List.set_cons_succ])
          refine wpAnyN_take (i := 5) (oi := { dst := some 26, op := Go.Op.move (Go.Operand.tmp 0), type := 22, pos := "ref.go:79", after := #[{ on := 2, ground := Go.Ground.guard }], guard := some (2, true) }) (oL := { dst := some 32, op := Go.Op.pick (Go.Operand.tmp 23) (Go.Operand.tmp 31) (Go.Operand.const (Go.Value.bool false)), type := 4, pos := "ref.go:79", after := #[{ on := 2, ground := Go.Ground.data }, { on := 10, ground := Go.Ground.data }], guard := none }) (v := undef) rfl rfl (by kernel_rfl) (by kernel_rfl) (by kernel_rfl) (by kernel_rfl) (fun _ _ _ h => h) (Or.inr ⟨by kernel_rfl, rfl⟩) rfl ?_
          (try simp only [Act.put, List.setIfInBounds_toArray, List.set_cons_zero, List.set_cons_succ])
          refine wpAnyN_take (i := 6) (oi := { dst := some 27, op := Go.Op.move (Go.Operand.tmp 7), type := 3, pos := "ref.go:79", after := #[{ on := 2, ground := Go.Ground.guard }], guard := some (2, true) }) (oL := { dst := some 32, op := Go.Op.pick (Go.Operand.tmp 23) (Go.Operand.tmp 31) (Go.Operand.const (Go.Value.bool false)), type := 4, pos := "ref.go:79", after := #[{ on := 2, ground := Go.Ground.data }, { on := 10, ground := Go.Ground.data }], guard := none }) (v := undef) rfl rfl (by kernel_rfl) (by kernel_rfl) (by kernel_rfl) (by kernel_rfl) (fun _ _ _ h => h) (Or.inr ⟨by kernel_rfl, rfl⟩) rfl ?_
          (try simp only [Act.put, List.setIfInBounds_toArray, List.set_cons_zero, List.set_cons_succ])
          refine wpAnyN_take (i := 7) (oi := { dst := some 28, op := Go.Op.indexAddr 22 (Go.Operand.tmp 26) (Go.Operand.tmp 27), type := 0, pos := "ref.go:79", after := #[{ on := 5, ground := Go.Ground.data }, { on := 6, ground := Go.Ground.data }, { on := 2, ground := Go.Ground.guard }], guard := some (2, true) }) (oL := { dst := some 32, op := Go.Op.pick (Go.Operand.tmp 23) (Go.Operand.tmp 31) (Go.Operand.const (Go.Value.bool false)), type := 4, pos := "ref.go:79", after := #[{ on := 2, ground := Go.Ground.data }, { on := 10, ground := Go.Ground.data }], guard := none }) (v := undef) rfl rfl (by kernel_rfl) (by kernel_rfl) (by kernel_rfl) (by kernel_rfl) (fun _ _ _ h => h) (Or.inr ⟨by kernel_rfl, rfl⟩) rfl ?_
          (try simp only [Act.put, List.setIfInBounds_toArray, List.set_cons_zero, List.set_cons_succ])
          refine wpAnyN_take (i := 8) (oi := { dst := some 29, op := Go.Op.load 9 (Go.Operand.tmp 28), type := 9, pos := "ref.go:79", after := #[{ on := 7, ground := Go.Ground.data }, { on := 2, ground := Go.Ground.guard }], guard := some (2, true) }) (oL := { dst := some 32, op := Go.Op.pick (Go.Operand.tmp 23) (Go.Operand.tmp 31) (Go.Operand.const (Go.Value.bool false)), type := 4, pos := "ref.go:79", after := #[{ on := 2, ground := Go.Ground.data }, { on := 10, ground := Go.Ground.data }], guard := none }) (v := undef) rfl rfl (by kernel_rfl) (by kernel_rfl) (by kernel_rfl) (by kernel_rfl) (fun _ _ _ h => h) (Or.inr ⟨by kernel_rfl, rfl⟩) rfl ?_
          (try simp only [Act.put, List.setIfInBounds_toArray, List.set_cons_zero, List.set_cons_succ])
          refine wpAnyN_take (i := 9) (oi := { dst := some 30, op := Go.Op.call { callee := Go.Callee.value (Go.Operand.func 52), args := #[Go.Operand.tmp 29], argTypes := #[9] }, type := 9, pos := "ref.go:79", after := #[{ on := 8, ground := Go.Ground.data }, { on := 4, ground := Go.Ground.chain }, { on := 2, ground := Go.Ground.guard }], guard := some (2, true) }) (oL := { dst := some 32, op := Go.Op.pick (Go.Operand.tmp 23) (Go.Operand.tmp 31) (Go.Operand.const (Go.Value.bool false)), type := 4, pos := "ref.go:79", after := #[{ on := 2, ground := Go.Ground.data }, { on := 10, ground := Go.Ground.data }], guard := none }) (v := undef) rfl rfl (by kernel_rfl) (by kernel_rfl) (by kernel_rfl) (by kernel_rfl) (fun _ _ _ h => h) (Or.inr ⟨by kernel_rfl, rfl⟩) rfl ?_
          (try simp only [Act.put, List.setIfInBounds_toArray, List.set_cons_zero, List.set_cons_succ])
          refine wpAnyN_take (i := 10) (oi := { dst := some 31, op := Go.Op.binOp Go.BinOp.lss 9 (Go.Operand.tmp 25) (Go.Operand.tmp 30) 9, type := 4, pos := "ref.go:79", after := #[{ on := 4, ground := Go.Ground.data }, { on := 9, ground := Go.Ground.data }, { on := 2, ground := Go.Ground.guard }], guard := some (2, true) }) (oL := { dst := some 32, op := Go.Op.pick (Go.Operand.tmp 23) (Go.Operand.tmp 31) (Go.Operand.const (Go.Value.bool false)), type := 4, pos := "ref.go:79", after := #[{ on := 2, ground := Go.Ground.data }, { on := 10, ground := Go.Ground.data }], guard := none }) (v := undef) rfl rfl (by kernel_rfl) (by kernel_rfl) (by kernel_rfl) (by kernel_rfl) (fun _ _ _ h => h) (Or.inr ⟨by kernel_rfl, rfl⟩) rfl ?_
          (try simp only [Act.put, List.setIfInBounds_toArray, List.set_cons_zero, List.set_cons_succ])
          refine wpAnyN_one (i := 11) (o := { dst := some 32, op := Go.Op.pick (Go.Operand.tmp 23) (Go.Operand.tmp 31) (Go.Operand.const (Go.Value.bool false)), type := 4, pos := "ref.go:79", after := #[{ on := 2, ground := Go.Ground.data }, { on := 10, ground := Go.Ground.data }], guard := none }) (by kernel_rfl) rfl (fun K hK => ?_)
          go_simp
          refine hK.out _ _ (fun e => absurd (e.symm.trans (by kernel_rfl) : false = true) Bool.false_ne_true) ?_
          clear hK K
          (try simp only [Act.put, List.setIfInBounds_toArray, List.set_cons_zero, List.set_cons_succ])
          refine wpAnyN_of_H (S' := fun _ => True) _ _ _ _ (by kernel_rfl) ?_
          refine wpAnyH_done (by kernel_rfl) ?_ _
          have HO4 := Lib.hid (HO3.out.on (Below.refl _ _).drew)
          go_wp2_with (at_builtin; refine appT rfl _ _ rfl t HO4.out rfl w3.heap.size rfl rfl (by have := HLn.out; omega) ?_; intro v6 w6 ho6; obtain ⟨a6, k6, hv6⟩ := ho6.shape; rw [List.length_append] at hv6; subst hv6; have HO6 := Lib.hid ho6; clear ho6)
          go_roundw
          case rel => exact ⟨k + 1, _, rfl, hlt, by go_num, by rw [HSn.out]; rfl, HNo2.out, by rw [HSn.out]; exact HO6.out⟩
          case measure => simp [intOf]; omega
        | false =>
          obtain ⟨lt, hltb⟩ : ∃ lt, ltB x t = lt := ⟨_, rfl⟩
          rw [hltb] at hlt'
          have HLb := Lib.hid hltb
          clear hltb
          generalize S (lower (L x)) = sx at *
          generalize S (lower (L t)) = st at *
          refine wp_region_N 11 (fun X => Below w3.heap.size w3 X) (by kernel_rfl) ?_
          refine wpAnyN_take (i := 0) (oi := { dst := some 21, op := Go.Op.move (Go.Operand.tmp 6), type := 4, pos := "ref.go:79", after := #[], guard := none }) (oL := { dst := some 32, op := Go.Op.pick (Go.Operand.tmp 23) (Go.Operand.tmp 31) (Go.Operand.const (Go.Value.bool false)), type := 4, pos := "ref.go:79", after := #[{ on := 2, ground := Go.Ground.data }, { on := 10, ground := Go.Ground.data }], guard := none }) (v := .bool false) rfl rfl (by kernel_rfl) (by kernel_rfl) (by kernel_rfl) (by kernel_rfl) (fun _ _ _ h => h) (Or.inl ⟨by kernel_rfl, ?_⟩) (Below.refl _ _).drew ?_
          · (intro X hX; have y := HY.out X hX <;> (go_simp; try (with_reducible rfl)))
          (try simp only [Act.put, List.setIfInBounds_toArray, List.set_cons_zero, List.set_cons_succ])
          refine wpAnyN_take (i := 1) (oi := { dst := some 22, op := Go.Op.unOp Go.UnOp.not 4 (Go.Operand.tmp 21), type := 4, pos := "ref.go:79", after := #[{ on := 0, ground := Go.Ground.data }], guard := none }) (oL := { dst := some 32, op := Go.Op.pick (Go.Operand.tmp 23) (Go.Operand.tmp 31) (Go.Operand.const (Go.Value.bool false)), type := 4, pos := "ref.go:79", after := #[{ on := 2, ground := Go.Ground.data }, { on := 10, ground := Go.Ground.data }], guard := none }) (v := .bool true) rfl rfl (by kernel_rfl) (by kernel_rfl) (by kernel_rfl) (by kernel_rfl) (fun _ _ _ h => h) (Or.inl ⟨by kernel_rfl, ?_⟩) (Below.refl _ _).drew ?_
          · (intro X hX; have y := HY.out X hX <;> (go_simp; try (with_reducible rfl)))
          (try simp only [Act.put, List.setIfInBounds_toArray, List.set_cons_zero, List.set_cons_succ])
          refine wpAnyN_take (i := 2) (oi := { dst := some 23, op := Go.Op.move (Go.Operand.tmp 22), type := 4, pos := "ref.go:79", after := #[{ on := 1, ground := Go.Ground.data }], guard := none }) (oL := { dst := some 32, op := Go.Op.pick (Go.Operand.tmp 23) (Go.Operand.tmp 31) (Go.Operand.const (Go.Value.bool false)), type := 4, pos := "ref.go:79", after := #[{ on := 2, ground := Go.Ground.data }, { on := 10, ground := Go.Ground.data }], guard := none }) (v := .bool true) rfl rfl (by kernel_rfl) (by kernel_rfl) (by kernel_rfl) (by kernel_rfl) (fun _ _ _ h => h) (Or.inl ⟨by kernel_rfl, ?_⟩) (Below.refl _ _).drew ?_
          · (intro X hX; have y := HY.out X hX <;> (go_simp; try (with_reducible rfl)))
          (try simp only [Act.put, List.setIfInBounds_toArray, List.set_cons_zero, List.set_cons_succ])
          refine wpAnyN_take (i := 3) (oi := { dst := some 24, op := Go.Op.move (Go.Operand.tmp 1), type := 9, pos := "ref.go:79", after := #[{ on := 2, ground := Go.Ground.guard }], guard := some (2, true) }) (oL := { dst := some 32, op := Go.Op.pick (Go.Operand.tmp 23) (Go.Operand.tmp 31) (Go.Operand.const (Go.Value.bool false)), type := 4, pos := "ref.go:79", after := #[{ on := 2, ground := Go.Ground.data }, { on := 10, ground := Go.Ground.data }], guard := none }) (v := .string x) rfl rfl (by kernel_rfl) (by kernel_rfl) (by kernel_rfl) (by kernel_rfl) (fun _ _ _ h => h) (Or.inl ⟨by kernel_rfl, ?_⟩) (Below.refl _ _).drew ?_
          · (intro X hX; have y := HY.out X hX <;> (go_simp; try (with_reducible rfl)))
          (try simp only [Act.put, List.setIfInBounds_toArray, List.set_cons_zero, List.set_cons_succ])
          refine wpAnyN_take (i := 5) (oi := { dst := some 26, op := Go.Op.move (Go.Operand.tmp 0), type := 22, pos := "ref.go:79", after := #[{ on := 2, ground := Go.Ground.guard }], guard := some (2, true) }) (oL := { dst := some 32, op := Go.Op.pick (Go.Operand.tmp 23) (Go.Operand.tmp 31) (Go.Operand.const (Go.Value.bool false)), type := 4, pos := "ref.go:79", after := #[{ on := 2, ground := Go.Ground.data }, { on := 10, ground := Go.Ground.data }], guard := none }) (v := .slice (some ⟨b, off, none⟩) m cap) rfl rfl (by kernel_rfl) (by kernel_rfl) (by kernel_rfl) (by kernel_rfl) (fun _ _ _ h => h) (Or.inl ⟨by kernel_rfl, ?_⟩) (Below.refl _ _).drew ?_
          · (intro X hX; have y := HY.out X hX <;> (go_simp; try (with_reducible rfl)))
          (try simp only [Act.put, List.setIfInBounds_toArray, List.set_cons_zero, List.set_cons_succ])
          refine wpAnyN_take (i := 6) (oi := { dst := some 27, op := Go.Op.move (Go.Operand.tmp 7), type := 3, pos := "ref.go:79", after := #[{ on := 2, ground := Go.Ground.guard }], guard := some (2, true) }) (oL := { dst := some 32, op := Go.Op.pick (Go.Operand.tmp 23) (Go.Operand.tmp 31) (Go.Operand.const (Go.Value.bool false)), type := 4, pos := "ref.go:79", after := #[{ on := 2, ground := Go.Ground.data }, { on := 10, ground := Go.Ground.data }], guard := none }) (v := .int .i64 (k : Int)) rfl rfl (by kernel_rfl) (by kernel_rfl) (by kernel_rfl) (by kernel_rfl) (fun _ _ _ h => h) (Or.inl ⟨by kernel_rfl, ?_⟩) (Below.refl _ _).drew ?_
          · (intro X hX; have y := HY.out X hX <;> (go_simp; try (with_reducible rfl)))
          (try simp only [Act.put, List.setIfInBounds_toArray, List.set_cons_zero, List.set_cons_succ])
          refine wpAnyN_take (i := 7) (oi := { dst := some 28, op := Go.Op.indexAddr 22 (Go.Operand.tmp 26) (Go.Operand.tmp 27), type := 0, pos := "ref.go:79", after := #[{ on := 5, ground := Go.Ground.data }, { on := 6, ground := Go.Ground.data }, { on := 2, ground := Go.Ground.guard }], guard := some (2, true) }) (oL := { dst := some 32, op := Go.Op.pick (Go.Operand.tmp 23) (Go.Operand.tmp 31) (Go.Operand.const (Go.Value.bool false)), type := 4, pos := "ref.go:79", after := #[{ on := 2, ground := Go.Ground.data }, { on := 10, ground := Go.Ground.data }], guard := none }) (v := .pointer (some ⟨b, off + k, none⟩)) rfl rfl (by kernel_rfl) (by kernel_rfl) (by kernel_rfl) (by kernel_rfl) (fun _ _ _ h => h) (Or.inl ⟨by kernel_rfl, ?_⟩) (Below.refl _ _).drew ?_
          · (intro X hX; have y := HY.out X hX <;> (go_simp; try (with_reducible rfl)))
          (try simp only [Act.put, List.setIfInBounds_toArray, List.set_cons_zero, List.set_cons_succ])
          refine wpAnyN_take (i := 8) (oi := { dst := some 29, op := Go.Op.load 9 (Go.Operand.tmp 28), type := 9, pos := "ref.go:79", after := #[{ on := 7, ground := Go.Ground.data }, { on := 2, ground := Go.Ground.guard }], guard := some (2, true) }) (oL := { dst := some 32, op := Go.Op.pick (Go.Operand.tmp 23) (Go.Operand.tmp 31) (Go.Operand.const (Go.Value.bool false)), type := 4, pos := "ref.go:79", after := #[{ on := 2, ground := Go.Ground.data }, { on := 10, ground := Go.Ground.data }], guard := none }) (v := .string t) rfl rfl (by kernel_rfl) (by kernel_rfl) (by kernel_rfl) (by kernel_rfl) (fun _ _ _ h => h) (Or.inl ⟨by kernel_rfl, ?_⟩) (Below.refl _ _).drew ?_
          · (intro X hX; have y := HY.out X hX <;> (go_simp; try (with_reducible rfl)))
          (try simp only [Act.put, List.setIfInBounds_toArray, List.set_cons_zero, List.set_cons_succ])
          refine wpAnyN_one (i := 4) (o := { dst := some 25, op := Go.Op.call { callee := Go.Callee.value (Go.Operand.func 52), args := #[Go.Operand.tmp 24], argTypes := #[9] }, type := 9, pos := "ref.go:79", after := #[{ on := 3, ground := Go.Ground.data }, { on := 2, ground := Go.Ground.chain }, { on := 2, ground := Go.Ground.guard }], guard := some (2, true) }) (by kernel_rfl) rfl (fun K hK => ?_)
          go_simp
          refine (HLx.out _).mono ?_
          rintro e w4 ⟨rfl, hb4⟩
          have HB4 := Lib.hid ((Below.refl _ _).drew.trans hb4)
          clear hb4
          refine hK.out _ _ (fun _ => HB4.out) ?_
          clear hK K
          (try simp only [Act.put, List.setIfInBounds_toArray, List.set_cons_zero, List.set_cons_succ])
          refine wpAnyN_one (i := 9) (o := { dst := some 30, op := Go.Op.call { callee := Go.Callee.value (Go.Operand.func 52), args := #[Go.Operand.tmp 29], argTypes := #[9] }, type := 9, pos := "ref.go:79", after := #[{ on := 8, ground := Go.Ground.data }, { on := 4, ground := Go.Ground.chain }, { on := 2, ground := Go.Ground.guard }], guard := some (2, true) }) (by kernel_rfl) rfl (fun K hK => ?_)
          go_simp
          refine (HLt.out _).mono ?_
          rintro e w5 ⟨rfl, hb5⟩
          have HB5 := Lib.hid (HB4.out.trans (hb5.mono HB4.out.size))
          clear hb5
          refine hK.out _ _ (fun _ => HB5.out) ?_
          clear hK K
          (try simp only [Act.put, List.setIfInBounds_toArray, List.set_cons_zero, List.set_cons_succ])
          refine wpAnyN_take (i := 10) (oi := { dst := some 31, op := Go.Op.binOp Go.BinOp.lss 9 (Go.Operand.tmp 25) (Go.Operand.tmp 30) 9, type := 4, pos := "ref.go:79", after := #[{ on := 4, ground := Go.Ground.data }, { on := 9, ground := Go.Ground.data }, { on := 2, ground := Go.Ground.guard }], guard := some (2, true) }) (oL := { dst := some 32, op := Go.Op.pick (Go.Operand.tmp 23) (Go.Operand.tmp 31) (Go.Operand.const (Go.Value.bool false)), type := 4, pos := "ref.go:79", after := #[{ on := 2, ground := Go.Ground.data }, { on := 10, ground := Go.Ground.data }], guard := none }) (v := .bool lt) rfl rfl (by kernel_rfl) (by kernel_rfl) (by kernel_rfl) (by kernel_rfl) (fun _ _ _ h => h) (Or.inl ⟨by kernel_rfl, ?_⟩) HB5.out ?_
          · (intro X hX; have y := HY.out X hX <;> (go_simp; try (with_reducible rfl)))
          (try simp only [Act.put, List.setIfInBounds_toArray, List.set_cons_zero, List.set_cons_succ])
          refine wpAnyN_one (i := 11) (o := { dst := some 32, op := Go.Op.pick (Go.Operand.tmp 23) (Go.Operand.tmp 31) (Go.Operand.const (Go.Value.bool false)), type := 4, pos := "ref.go:79", after := #[{ on := 2, ground := Go.Ground.data }, { on := 10, ground := Go.Ground.data }], guard := none }) (by kernel_rfl) rfl (fun K hK => ?_)
          go_simp
          refine hK.out _ _ (fun e => absurd (e.symm.trans (by kernel_rfl) : false = true) Bool.false_ne_true) ?_
          clear hK K
          (try simp only [Act.put, List.setIfInBounds_toArray, List.set_cons_zero, List.set_cons_succ])
          refine wpAnyN_of_H (S' := fun _ => True) _ _ _ _ (by kernel_rfl) ?_
          refine wpAnyH_done (by kernel_rfl) ?_ _
          have HO5 := Lib.hid (HO3.out.on HB5.out)
          have y5 := HY.out _ HB5.out
          clear hlt'
          cases lt with
          | true =>
            go_wp2_with (at_builtin; first | (have hX := HO6; clear hX; refine appT rfl _ _ rfl t HO6.out rfl w6.heap.size rfl rfl (by have := HLn.out; simp; omega) ?_; intro v7 w7 ho7; obtain ⟨a7, k7, hv7⟩ := ho7.shape; rw [List.length_append] at hv7; subst hv7; have HO7 := Lib.hid ho7; clear ho7) | (refine appT rfl _ _ rfl x HO5.out rfl w5.heap.size rfl rfl (by have := HLn.out; omega) ?_; intro v6 w6 ho6; obtain ⟨a6, k6, hv6⟩ := ho6.shape; rw [List.length_append] at hv6; subst hv6; have HO6 := Lib.hid ho6; have y6 := HYb.out _ ho6.below; clear ho6))
            go_roundw
            case rel => exact ⟨k + 1, _, rfl, hlt, by go_num, by rw [HSn.out]; unfold putS; rw [HLb.out]; rfl, HNo2.out, by
              rw [HSn.out]
              unfold putS
              rw [HLb.out]
              have h := HO7.out
              rw [List.append_assoc, List.length_append, List.length_singleton, List.length_singleton] at h
              exact h⟩
            case measure => simp [intOf]; omega
          | false =>
            go_wp2_with (at_builtin; refine appT rfl _ _ rfl t HO5.out rfl w5.heap.size rfl rfl (by have := HLn.out; omega) ?_; intro v6 w6 ho6; obtain ⟨a6, k6, hv6⟩ := ho6.shape; rw [List.length_append] at hv6; subst hv6; have HO6 := Lib.hid ho6; clear ho6)
            go_roundw
            case rel => exact ⟨k + 1, _, rfl, hlt, by go_num, by rw [HSn.out]; unfold putS; rw [HLb.out]; rfl, HNo2.out, by rw [HSn.out]; unfold putS; rw [HLb.out]; exact HO6.out⟩
            case measure => simp [intOf]; omega
    · have hki : ¬ (k : Int) < (m : Int) := by omega
      have hkm : k = ws.length := by rw [HM.out]; omega
      have HFin : Hid (putL ws x = (putAt x (ws.take k)).1 ++ cond (putAt x (ws.take k)).2 [] [x]) := Lib.hid (by
        unfold putL
        have : ws.any (fun y => sameB y x) = false := by
          rw [List.any_eq_false]
          intro y hy
          obtain ⟨j, hj, rfl⟩ := List.getElem_of_mem hy
          have := HNo.out j (by omega)
          rw [List.getD_eq_getElem?_getD, List.getElem?_eq_getElem hj] at this
          simpa using this
        rw [this, hkm, List.take_length]
        exact putAt_all x ws)
      clear hkm
      obtain ⟨P, hP⟩ : ∃ P, putAt x (ws.take k) = P := ⟨_, rfl⟩
      rw [hP] at HFin HO HLn hown ⊢
      clear hP
      obtain ⟨pl, pd⟩ := P
      simp only at HFin HO HLn hown ⊢
      obtain ⟨ao5, cap5, rfl⟩ := hown.shape
      clear hown
      cases pd with
      | true =>
        go_wp2_with fail
        go_ret
        refine ⟨_, rfl, ?_, HO.out.below, HO.out.putLo⟩
        rw [HFin.out, cond_true, List.append_nil]
        exact HO.out.strs (by have := HLn.out; omega)
      | false =>
        go_wp2_with (at_builtin; refine appT rfl _ _ rfl x HO.out rfl _ rfl rfl (by have := HLn.out; omega) ?_; intro v6 w6 ho6; obtain ⟨a6, k6, hv6⟩ := ho6.shape; rw [List.length_append] at hv6; subst hv6; have HO6 := Lib.hid ho6; clear ho6)
        go_ret
        refine ⟨_, rfl, ?_, HO6.out.below, HO6.out.putLo⟩
        rw [HFin.out, cond_false]
        exact HO6.out.strs (by have := HLn.out; simp; omega)
end Go.Proofs.YtbncaiocmklgnaaGreatDoor
