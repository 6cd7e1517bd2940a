/- event: Flags. -/
import Derived.Test.YtbncaiocmklgnaaGreatDoorV11e
namespace Go.Proofs.YtbncaiocmklgnaaGreatDoor
open Go.RowKit Go.Sort

def toTx (f : ByteArray) : Tx := if h : f.size ≤ 1000000 then ⟨f, h⟩ else default
theorem toTx_eq {f : ByteArray} (h : f.size ≤ 1000000) : toTx f = ⟨f, h⟩ := dif_pos h
theorem toTx_val {f : ByteArray} (h : f.size ≤ 1000000) : (toTx f).1 = f := by rw [toTx_eq h]
theorem isKey_size {f : ByteArray} (h : isKey (L f) = true) : f.size ≤ 24 := by
  unfold isKey at h
  simp at h
  have := h.1
  rw [L_length] at this
  first | exact this | omega
/-- Are all that are none of the system's keywords? -/
def kwOK (ss : List ByteArray) : Bool := (partO ss).all (fun f => isKey (L f))
def keysT (ss : List ByteArray) : List Tx := compactT (sortT ((partO ss).map toTx))
/-- The one form. -/
def formT (ss : List ByteArray) : List ByteArray := sysTo (partS ss) 5 ++ (keysT ss).map (·.1)
def flagsE (ss : List ByteArray) : Int := if 16 < ss.length then 2 else if kwOK ss = true then 0 else 127
def flagsL (ss : List ByteArray) : List ByteArray := if flagsE ss = 0 then formT ss else []
theorem OwnT.lower {B B' : Nat} {v : Value} {l : List ByteArray} {W0 W0' w : World} (h : OwnT B v l W0 w) (hB : B' ≤ B) (hb : Below B' W0' W0) : OwnT B' v l W0' w := by
  refine ⟨⟨h.row.1, ?_⟩, hb.trans (h.below.mono hB), Nat.le_trans hB h.base⟩
  rcases h.row.2 with hn | ⟨g, cap, cur, e, hg, rest⟩
  · exact .inl hn
  · exact .inr ⟨g, cap, cur, e, Nat.le_trans hB hg, rest⟩
theorem OwnT.toRow {B : Nat} {v : Value} {l : List ByteArray} {W0 w : World} (h : OwnT B v l W0 w) (hl : l ≠ []) (hs : ∀ f, f ∈ l → f.size ≤ 1000000) :
    ∃ g cap, v = .slice (some ⟨g, 0, none⟩) l.length cap ∧ l.length ≤ cap ∧ RowAt B g (l.map toTx) W0 w := by
  rcases h.row.2 with ⟨rfl, h0⟩ | ⟨g, cap, cur, rfl, hB, hg, hc, _⟩
  · exact absurd (List.eq_nil_of_length_eq_zero h0) hl
  · refine ⟨g, cap, rfl, hc, fun j hj => ?_, (Array.getElem?_eq_some_iff.1 hg).1, hB, h.below⟩
    have hj' : j < l.length := by simpa using hj
    rw [Nat.zero_add]
    refine ⟨?_, frozen_of_row _ _ _ _ _ hg⟩
    have := h.row.cells (g := g) rfl j _ (tcs_at l j hj')
    rw [addN] at this
    rw [this]
    have e : l.getD j ByteArray.empty = l[j] := by simp [hj']
    have e2 : (l.map toTx).toArray[j]! = toTx l[j] := by simp [hj']
    rw [e, e2]
    unfold encT
    rw [toTx_val (hs _ (List.getElem_mem hj'))]
theorem RowAt.strs {B g : Nat} {l : List Tx} {W0 w : World} (h : RowAt B g l W0 w) (hl : l.length ≤ 1000000) (cap : Nat) : Strs w (.slice (some ⟨g, 0, none⟩) l.length cap) (l.map (·.1)) := by
  refine .inr ⟨g, 0, cap, by rw [List.length_map], by rw [List.length_map]; omega, h.lt, fun i hi => ?_⟩
  have hi' : i < l.length := by simpa using hi
  rw [Nat.zero_add, (h.cell i hi').1]
  congr 2
  simp [hi']
theorem goC_length (l : List Tx) : ∀ p, (goC p l).length ≤ l.length := by
  induction l with
  | nil => intro p; simp [goC]
  | cons y t ih =>
    intro p
    show (if sameT y p = true then goC y t else y :: goC y t).length ≤ _
    have := ih y
    split
    · simp; omega
    · simp; omega
theorem compactT_length (l : List Tx) : (compactT l).length ≤ l.length := by
  cases l with
  | nil => simp [compactT]
  | cons x t => simp only [compactT, List.length_cons]; have := goC_length t x; omega
theorem compactT_ne {l : List Tx} (h : l ≠ []) : compactT l ≠ [] := by
  cases l with
  | nil => exact absurd rfl h
  | cons x t => simp [compactT]
/-- The sort of no texts. -/
theorem stable_nil (w : World) :
    Calls Tryz.prog 20 #[.slice none 0 0, .func (.func 21) #[] #[]] w fun e w' => e = .returned (.tuple #[]) ∧ w' = w := by
  have HI : Hid (Calls Tryz.prog 56 #[.slice none 0 0, .int .i64 0, .int .i64 0, .func (.func 21) #[] #[]] w fun e w' => e = .returned (.tuple #[]) ∧ w' = w) := Lib.hid (by
    go_enter Tryz.func56, Tryz.ntmps56
    go_wp2
    refine wp_loop_rounds 1 ?_
    rw [rounds_succ]
    go_wp2_with fail
    first | go_end0 | (simp only [Exit.inBlock, Exit.then]; refine bodyPost_ret (results_none rfl _ _ _) rfl ?_) | refine bodyPost_ret (results_none rfl _ _ _) rfl ?_
    exact ⟨rfl, rfl⟩)
  have HC : Hid (Calls Tryz.prog 41 #[.slice none 0 0, .int .i64 0, .func (.func 21) #[] #[]] w fun e w' => e = .returned (.tuple #[]) ∧ w' = w) := Lib.hid (by
    go_enter Tryz.func41, Tryz.ntmps41
    go_wp2
    refine wp_loop_rounds 1 ?_
    rw [rounds_succ]
    go_wp2_with fail
    refine HI.out.mono ?_
    rintro e w1 ⟨rfl, rfl⟩
    go_wp2_with fail
    refine wp_loop_rounds 1 ?_
    rw [rounds_succ]
    go_wp2_with fail
    first | go_end0 | (simp only [Exit.inBlock, Exit.then]; refine bodyPost_ret (results_none rfl _ _ _) rfl ?_) | refine bodyPost_ret (results_none rfl _ _ _) rfl ?_
    exact ⟨rfl, rfl⟩)
  go_enter Tryz.func20, Tryz.ntmps20
  go_wp2_with fail
  refine HC.out.mono ?_
  rintro e w1 ⟨rfl, rfl⟩
  go_wp2_with fail
  first | go_end0 | (simp only [Exit.inBlock, Exit.then]; refine bodyPost_ret (results_none rfl _ _ _) rfl ?_) | refine bodyPost_ret (results_none rfl _ _ _) rfl ?_
  exact ⟨rfl, rfl⟩
theorem compact_nil (w : World) :
    Calls Tryz.prog 25 #[.slice none 0 0, .func (.func 26) #[] #[]] w fun e w' => e = .returned (.slice none 0 0) ∧ w' = w := by
  go_enter Tryz.func25, Tryz.ntmps25
  go_wp2
  go_ret
  exact ⟨rfl, rfl⟩
set_option maxHeartbeats 4000000 in
theorem Flags_any (v : Value) (ss : List ByteArray) (w : World) (he : EnvF w) (h : Strs w v ss) (hz : ∀ i, i < ss.length → (ss.getD i ByteArray.empty).size ≤ 140737488355328) :
    Calls Tryz.prog 7 #[v] w fun e w' => ∃ vo, e = .returned (.tuple #[vo, .int .i64 (flagsE ss)]) ∧ OwnT w.heap.size vo (flagsL ss) w w' := by
  obtain ⟨ao, cap, rfl⟩ := h.shape
  by_cases h16 : 16 < ss.length
  · have hE : flagsE ss = 2 := by unfold flagsE; rw [if_pos h16]
    have hL : flagsL ss = [] := by unfold flagsL; rw [hE, if_neg (by decide)]
    rw [hE, hL]
    have h16i : (16 : Int) < (ss.length : Int) := by omega
    clear hE hL
    go_enter Tryz.func7, Tryz.ntmps7
    go_wp2
    go_ret2
    exact ⟨_, rfl, OwnT.nil (Below.refl _ _) (Nat.le_refl _)⟩
  have h16i : ¬ (16 : Int) < (ss.length : Int) := by omega
  have HP := Lib.hid (parted_any _ ss w he h (by omega) (fun i hi => by have := hz i hi; unfold maxLen; omega))
  have HE := Lib.hid he
  have hpl : (partO ss).length ≤ 16 := Nat.le_trans (List.length_filter_le _ _) (by omega)
  have hps := partS_lt ss
  have hpz : ∀ f, f ∈ partO ss → f.size ≤ 140737488355328 := by
    intro f hf
    have hm := (List.mem_filter.1 hf).1
    obtain ⟨i, hi, rfl⟩ := List.getElem_of_mem hm
    have := hz i hi
    simpa [hi] using this
  have HPZ := Lib.hid hpz
  clear he h hz hpz
  go_enter Tryz.func7, Tryz.ntmps7
  go_wp2_with fail
  refine HP.out.mono ?_
  rintro e w1 ⟨vo, rfl, hO, hnil⟩
  obtain ⟨bo, cb, hsh⟩ := hO.shape
  subst hsh
  have HO := Lib.hid hO
  clear hO HP
  obtain ⟨po, hpo⟩ : ∃ po, po = partO ss := ⟨_, rfl⟩
  rw [← hpo] at HO hpl HPZ hnil ⊢
  have HNil := Lib.hid hnil
  clear hnil
  have HPo := Lib.hid hpo
  clear hpo
  have hst : ∀ W, OwnT w.heap.size (.slice bo po.length cb) po w W → ∀ k, k < po.length → ∃ g, bo = some ⟨g, 0, none⟩ ∧ W.cell? ⟨g, k, none⟩ = some (.string (po.getD k ByteArray.empty)) := by
    intro W hW k hk
    obtain ⟨g, c, e, _, _, hc⟩ := hW.cells (by intro e; rw [e] at hk; simp at hk)
    cases e
    exact ⟨g, rfl, (hc k hk).1⟩
  have HSt := Lib.hid hst
  clear hst
  go_wp2_with fail
  go_loopw [18] (fun i wr => ∃ k : Nat, k ≤ po.length ∧ i = .int .i64 k ∧ Hid (∀ j, j < k → isKey (L (po.getD j ByteArray.empty)) = true) ∧ OwnT w.heap.size (.slice bo po.length cb) po w wr) (fun i _ => po.length - (intOf i).toNat)
  case atStart => exact ⟨0, Nat.zero_le _, rfl, Lib.hid (fun j hj => absurd hj (by omega)), HO.out⟩
  case round =>
    clear HO
    obtain ⟨k, hk, rfl, HA, hO⟩ := hrel
    by_cases hlt : k < po.length
    · obtain ⟨g, rfl, hc⟩ := HSt.out _ hO k hlt
      have hzk := HPZ.out (po.getD k ByteArray.empty) (by simp [hlt])
      have hk0 : (0 : Int) ≤ (k : Int) := by omega
      have hk1 : (k : Int) < (po.length : Int) := by omega
      have HI := Lib.hid (fun W => lIs5 (po.getD k ByteArray.empty) W hzk)
      have HO := Lib.hid hO
      clear hO hzk
      cases hkey : isKey (L (po.getD k ByteArray.empty)) with
      | false =>
        rw [hkey] at HI
        have HR : Hid (flagsE ss = 127 ∧ flagsL ss = []) := Lib.hid (by
          have hne : ¬ kwOK ss = true := by
            intro hk'
            unfold kwOK at hk'
            rw [← HPo.out, List.all_eq_true] at hk'
            have := hk' (po.getD k ByteArray.empty) (by simp [hlt])
            rw [hkey] at this
            cases this
          have e : flagsE ss = 127 := by unfold flagsE; rw [if_neg h16, if_neg hne]
          exact ⟨e, by unfold flagsL; rw [e, if_neg (by decide)]⟩)
        clear hkey HA
        generalize po.getD k ByteArray.empty = f at *
        go_wp2_with (go_at_call 19; refine (HI.out _).mono ?_; rintro e w2 ⟨rfl, rfl⟩)
        go_ret2
        rw [HR.out.1, HR.out.2]
        exact ⟨_, rfl, OwnT.nil HO.out.below HO.out.base⟩
      | true =>
        rw [hkey] at HI
        have HA2 : Hid (∀ j, j < k + 1 → isKey (L (po.getD j ByteArray.empty)) = true) := Lib.hid (fun j hj => by
          rcases Nat.lt_or_ge j k with h | h
          · exact HA.out j h
          · obtain rfl : j = k := by omega
            exact hkey)
        clear hkey HA
        generalize po.getD k ByteArray.empty = f at *
        go_wp2_with (go_at_call 19; refine (HI.out _).mono ?_; rintro e w2 ⟨rfl, rfl⟩)
        go_roundw
        case rel => exact ⟨k + 1, by omega, by go_num, HA2, HO.out⟩
        case measure => simp [intOf]; omega
    · obtain rfl : k = po.length := by omega
      have hok : kwOK ss = true := by
        unfold kwOK
        rw [← HPo.out, List.all_eq_true]
        intro f hf
        obtain ⟨i, hi, rfl⟩ := List.getElem_of_mem hf
        have := HA.out i hi
        simpa [hi] using this
      have HR : Hid (flagsE ss = 0 ∧ flagsL ss = formT ss) := Lib.hid (by
        have e : flagsE ss = 0 := by unfold flagsE; rw [if_neg h16, if_pos hok]
        exact ⟨e, by unfold flagsL; rw [e, if_pos rfl]⟩)
      have HS24 : Hid (∀ f, f ∈ po → f.size ≤ 1000000) := Lib.hid (fun f hf => by
        obtain ⟨i, hi, rfl⟩ := List.getElem_of_mem hf
        have := HA.out i hi
        have h3 : isKey (L po[i]) = true := by simpa [hi] using this
        have := isKey_size h3
        omega)
      clear hok HA HSt
      by_cases hp0 : po = []
      · have HF : Hid (formT ss = sysTo (partS ss) 5) := Lib.hid (by unfold formT keysT; rw [← HPo.out, hp0]; exact List.append_nil _)
        subst hp0
        have hvn : bo = none ∧ cb = 0 := by
          have := HNil.out rfl
          cases this
          exact ⟨rfl, rfl⟩
        obtain ⟨rfl, rfl⟩ := hvn
        have HO := Lib.hid hO
        have HEn := Lib.hid (HE.out.on (⟨hO.below.os, hO.below.tape, hO.below.output, hO.below.size, hO.below.block⟩ : Below w.heap.size w wr))
        clear hO
        have hJ := joined_any (partS ss) (.slice none 0 0) [] wr HEn.out (.inl ⟨rfl, none, 0, rfl⟩) (fun _ => rfl) (by simp) (by omega)
        rw [List.append_nil] at hJ
        have HJ := Lib.hid hJ
        clear hJ
        generalize partS ss = ps at *
        go_wp2_with (first | (go_at_call 20; refine (stable_nil _).mono ?_; rintro e w2 ⟨rfl, rfl⟩) | (go_at_call 25; refine (compact_nil _).mono ?_; rintro e w2 ⟨rfl, rfl⟩) | (go_at_call 24; refine HJ.out.mono ?_; rintro e w3 ⟨v3, rfl, ho3⟩; obtain ⟨a3, c3, hv3⟩ := ho3.shape; subst hv3; have HO3 := Lib.hid ho3; clear ho3))
        go_ret2
        rw [HR.out.1, HR.out.2, HF.out]
        exact ⟨_, rfl, HO3.out.lower HO.out.base HO.out.below⟩
      · obtain ⟨g, cap2, hv, hcap, hRow⟩ := hO.toRow hp0 HS24.out
        cases hv
        have hml : (po.map toTx).length = po.length := List.length_map ..
        have HB := Lib.hid (⟨hO.below.os, hO.below.tape, hO.below.output, hO.below.size, hO.below.block⟩ : Below w.heap.size w wr)
        have HBase := Lib.hid hO.base
        have HS1 := Lib.hid (stable_any hRow (by rw [hml]; omega) cb)
        rw [hml] at HS1
        have hpos : 1 ≤ po.length := by
          rcases Nat.eq_zero_or_pos po.length with h | h
          · exact absurd (List.eq_nil_of_length_eq_zero h) hp0
          · exact h
        have HS2 := Lib.hid (fun (W : World) (hW : RowAt w.heap.size g (sortT (po.map toTx)) w W) => compact_any hW (by rw [sortT_length, hml]; omega) (by rw [sortT_length, hml]; exact hpos) cb (by rw [sortT_length, hml]; exact hcap))
        rw [sortT_length, hml] at HS2
        have HK : Hid (keysT ss = compactT (sortT (po.map toTx))) := Lib.hid (by unfold keysT; rw [HPo.out])
        have hkl : (compactT (sortT (po.map toTx))).length ≤ 16 := by
          have := compactT_length (sortT (po.map toTx))
          rw [sortT_length, hml] at this
          omega
        have hkn : compactT (sortT (po.map toTx)) ≠ [] := compactT_ne (by
          intro e
          have := congrArg List.length e
          rw [sortT_length, hml] at this
          exact hp0 (List.eq_nil_of_length_eq_zero (by simpa using this)))
        clear hO hRow hml
        generalize sortT (po.map toTx) = st at *
        obtain ⟨ks, hks⟩ : ∃ ks, ks = compactT st := ⟨_, rfl⟩
        rw [← hks] at HS2 HK hkl hkn
        clear hks
        have HJ := Lib.hid (fun (W : World) (hE : EnvF W) (hW : RowAt w.heap.size g ks w W) => joined_any (partS ss) (.slice (some ⟨g, 0, none⟩) ks.length cb) (ks.map (·.1)) W hE (hW.strs (by omega) cb) (fun e => absurd (List.map_eq_nil_iff.1 e) hkn) (by rw [List.length_map]; omega) (by omega))
        have HF : Hid (formT ss = sysTo (partS ss) 5 ++ ks.map (·.1)) := Lib.hid (by unfold formT; rw [HK.out])
        have HEo := Lib.hid (fun (W : World) (hW : RowAt w.heap.size g ks w W) => HE.out.on hW.below)
        clear HK hkn
        generalize partS ss = ps at *
        go_wp2_with (first | (go_at_call 20; refine HS1.out.mono ?_; rintro e w2 ⟨rfl, hr2⟩; have HR2 := Lib.hid hr2; clear hr2) | (go_at_call 25; refine (HS2.out _ HR2.out).mono ?_; rintro e w3 ⟨rfl, hr3⟩; have HR3 := Lib.hid hr3; clear hr3) | (go_at_call 24; refine (HJ.out _ (HEo.out _ HR3.out) HR3.out).mono ?_; rintro e w4 ⟨v4, rfl, ho4⟩; obtain ⟨a4, c4, hv4⟩ := ho4.shape; rw [List.length_append, List.length_map] at hv4; subst hv4; have HO4 := Lib.hid ho4; clear ho4))
        go_ret2
        rw [HR.out.1, HR.out.2, HF.out]
        exact ⟨_, rfl, HO4.out.lower (by have := HR3.out.lo; have := HR3.out.lt; omega) HR3.out.below⟩
end Go.Proofs.YtbncaiocmklgnaaGreatDoor
