/- view by what is plain of it: Uids, Seq, Gone, Recent; alike, num. -/
import Derived.Test.YtiphbnmnoofpkaaN16a
namespace Go.Proofs.Ytiphbnmnoofpkaa
open Go.RowKit

def PR0 : PR := ⟨0, false, false, none⟩
def atP (V : PV) (u : Int) : PR := if hitP (uidsP V) u = true then V.rows.getD (ixP (uidsP V) u) PR0 else PR0
theorem atP_pl {R : List RE} {V : PV} (h : R.map RE.pl = V.rows) (u : Int) : (atR R u).gone = (atP V u).gone ∧ (atR R u).rct = (atP V u).rct := by
  have e : atP V u = (atR R u).pl := by
    unfold atP atR
    rw [← uid_pl h]
    split
    · rw [← h, List.getD_eq_getElem?_getD, List.getElem?_map, List.getD_eq_getElem?_getD]
      cases R[ixP (uidR R) u]? <;> rfl
    · rfl
  rw [e]
  exact ⟨rfl, rfl⟩
section
variable {P : Nat} {V : PV} {fp : List Nat} {w : World} {N : Nat}
theorem Uids_W (h : VW P V fp w) (hk : PVok V N) (hN : N ≤ 1000000) :
    Calls Try.prog 10 #[.pointer (some ⟨P, 0, none⟩)] w fun e w' => ∃ v', e = .returned v' ∧ OwnI w.heap.size v' (uidsP V) w w' := by
  obtain ⟨rv, cv, R, hV, hpl, rfl⟩ := h
  have hlen := (VOK.of hpl hk).len
  rw [← uid_pl hpl]
  exact Uids_any hV (by omega)
theorem Seq_W (h : VW P V fp w) (hk : PVok V N) (hN : N ≤ 1000000) (u : Int) :
    Calls Try.prog 14 #[.pointer (some ⟨P, 0, none⟩), .int .i64 u] w fun e w' => e = .returned (.tuple #[.int .i64 (seqI (uidsP V) u), .int .i64 (seqE (uidsP V) u)]) ∧ Below w.heap.size w w' := by
  obtain ⟨rv, cv, R, hV, hpl, rfl⟩ := h
  rw [← uid_pl hpl]
  exact Seq_any hV (VOK.of hpl hk) hN u
theorem Gone_W (h : VW P V fp w) (hk : PVok V N) (hN : N ≤ 1000000) (u : Int) :
    Calls Try.prog 18 #[.pointer (some ⟨P, 0, none⟩), .int .i64 u] w fun e w' => e = .returned (.bool (atP V u).gone) ∧ Below w.heap.size w w' := by
  obtain ⟨rv, cv, R, hV, hpl, rfl⟩ := h
  rw [← (atP_pl hpl u).1]
  exact Gone_any hV (VOK.of hpl hk) hN u
theorem Recent_W (h : VW P V fp w) (hk : PVok V N) (hN : N ≤ 1000000) (u : Int) :
    Calls Try.prog 28 #[.pointer (some ⟨P, 0, none⟩), .int .i64 u] w fun e w' => e = .returned (.bool (atP V u).rct) ∧ Below w.heap.size w w' := by
  obtain ⟨rv, cv, R, hV, hpl, rfl⟩ := h
  rw [← (atP_pl hpl u).2]
  exact Recent_any hV (VOK.of hpl hk) hN u
end
theorem num_any (n : Int) (w : World) : Calls Try.prog 27 #[.int .i64 n] w fun e w' => e = .returned (.int .i64 n) ∧ w' = w := by
  go_enter Try.func27, Try.ntmps27
  go_wp2
  go_ret
  exact ⟨rfl, rfl⟩
theorem take_eq {a b : List Int} (hl : a.length = b.length) (h : ∀ t, t < a.length → a.getD t 0 = b.getD t 0) : a = b := by
  apply List.ext_getElem hl
  intro i h1 h2
  have := h i h1
  rw [List.getD_eq_getElem?_getD, List.getElem?_eq_getElem h1, List.getD_eq_getElem?_getD, List.getElem?_eq_getElem h2] at this
  simpa using this
set_option maxRecDepth 100000 in
set_option maxHeartbeats 1000000 in
theorem alike_any (a b : Value) (l1 l2 : List Int) (w : World) (h1 : Nms w a l1) (h2 : Nms w b l2) (hl : l1.length ≤ 1000000) :
    Calls Try.prog 12 #[a, b] w fun e w' => e = .returned (.bool (decide (l1 = l2))) ∧ Below w.heap.size w w' := by
  obtain ⟨a1, c1, rfl, q1⟩ := h1
  obtain ⟨a2, c2, rfl, q2⟩ := h2
  by_cases hle : l1.length = l2.length
  · have H1 := Lib.hid q1
    have H2 := Lib.hid q2
    have hne : ((l1.length : Int) != (l2.length : Int)) = false := by rw [hle]; simp
    have HD : Hid ((∀ t, t < l1.length → l1.getD t 0 = l2.getD t 0) → decide (l1 = l2) = true) := Lib.hid (fun h => decide_eq_true (take_eq hle h))
    have HN : Hid (∀ t, l1.getD t 0 ≠ l2.getD t 0 → decide (l1 = l2) = false) := Lib.hid (fun t ht => decide_eq_false (fun e => ht (by rw [e])))
    have hle2 := hle
    clear q1 q2 hle
    generalize decide (l1 = l2) = dd at *
    go_enter Try.func12, Try.ntmps12
    go_wp2_with fail
    go_loopw [5] (fun i wr => ∃ k : Nat, k ≤ l1.length ∧ i = .int .i64 k ∧ Below w.heap.size w wr ∧ Hid (∀ t, t < k → l1.getD t 0 = l2.getD t 0)) (fun i _ => l1.length - (intOf i).toNat)
    case atStart => exact ⟨0, Nat.zero_le _, rfl, Below.refl _ _, Lib.hid (fun t ht => by omega)⟩
    case round =>
      obtain ⟨k, hk, rfl, hb, HK⟩ := hrel
      by_cases hlt : k < l1.length
      · have hlti : (k : Int) < (l1.length : Int) := by omega
        have hlti2 : (k : Int) < (l2.length : Int) := by omega
        obtain ⟨g1, o1, rfl, hg1, hc1⟩ := H1.out (by omega)
        obtain ⟨g2, o2, rfl, hg2, hc2⟩ := H2.out (by omega)
        have k1 := hc1 k hlt
        have k2 := hc2 k (by omega)
        rw [← hb.cell (p := ⟨g1, o1 + k, none⟩) hg1] at k1
        rw [← hb.cell (p := ⟨g2, o2 + k, none⟩) hg2] at k2
        have HBd := Lib.hid hb.drew
        have HNk := Lib.hid (HN.out k)
        have HKk : Hid (l1.getD k 0 = l2.getD k 0 → ∀ t, t < k + 1 → l1.getD t 0 = l2.getD t 0) := Lib.hid (fun e t ht => by
          by_cases et : t = k
          · rw [et]; exact e
          · exact HK.out t (by omega))
        clear hc1 hc2 hb
        generalize l1.getD k 0 = x at *
        generalize l2.getD k 0 = y at *
        by_cases hxy : x = y
        · have hq : (x != y) = false := by simpa using hxy
          have HKy := Lib.hid (HKk.out hxy)
          clear hxy HNk HKk
          go_upto_region 6 with fail
          go_region
          go_wp2_with fail
          go_roundw
          case rel => exact ⟨k + 1, by omega, by go_num, HBd.out, HKy⟩
          case measure => simp [intOf]; omega
        · have hq : (x != y) = true := by simpa using hxy
          have HF : Hid (dd = false) := Lib.hid (HNk.out hxy)
          clear hxy HNk HKk
          go_upto_region 6 with fail
          go_region
          go_wp2_with fail
          go_ret
          exact ⟨ret_bool HF.out.symm, HBd.out⟩
      · obtain rfl : k = l1.length := by omega
        have HF : Hid (dd = true) := Lib.hid (HD.out HK.out)
        have HB := Lib.hid hb
        clear hb
        go_wp2_with fail
        go_ret
        exact ⟨ret_bool HF.out.symm, HB.out⟩
  · have hne : ((l1.length : Int) != (l2.length : Int)) = true := by simp; omega
    have HF : Hid (decide (l1 = l2) = false) := Lib.hid (decide_eq_false (fun e => hle (by rw [e])))
    clear q1 q2 hle
    generalize decide (l1 = l2) = dd at *
    go_enter Try.func12, Try.ntmps12
    go_wp2_with fail
    go_ret
    exact ⟨ret_bool HF.out.symm, Below.refl _ _⟩
end Go.Proofs.Ytiphbnmnoofpkaa
