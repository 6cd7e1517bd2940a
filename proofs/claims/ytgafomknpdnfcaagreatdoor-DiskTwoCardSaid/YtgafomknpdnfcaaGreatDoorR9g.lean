/- The document's disk: refused. -/
import Derived.Test.YtgafomknpdnfcaaGreatDoorR9a
namespace Go.Proofs.YtgafomknpdnfcaaGreatDoor
open Go.RowKit

def opV (kd : Int) (nm dst dat : ByteArray) (n : Int) : Value := .agg #[.int .i64 kd, .string nm, .string dst, .string dat, .int .i64 n]
/-- Why an operation is refused on its own. -/
def refR (q : Int) (l : List PF) (kd : Int) (nm dst dat : ByteArray) (n : Int) : Int :=
  if !(isNm nm) || !(kd != 4 || isNm dst) then 90 else if kd == 1 then (if q < (usedP l : Int) + (dat.size : Int) then 92 else 0) else
    match getP nm l with | none => 91 | some p => if kd == 6 && (decide (n < 0) || decide ((p.data.length : Int) < n)) then 3 else 0
/-- What holds while the document looks at a disk and an operation. -/
abbrev SR (w : World) (fv : Value) (l : List PF) (q st : Int) (sv : Value) (si : Int) (dn : Bool) (kd : Int) (nm dst dat : ByteArray) (n : Int) (X : World) : Prop := X.cell? ⟨w.heap.size, 0, none⟩ = some (fv) ∧ X.cell? ⟨w.heap.size, 1, none⟩ = some (.int .i64 q) ∧ X.cell? ⟨w.heap.size, 2, none⟩ = some (.int .i64 st) ∧ X.cell? ⟨w.heap.size, 3, none⟩ = some (sv) ∧ X.cell? ⟨w.heap.size, 4, none⟩ = some (.int .i64 si) ∧ X.cell? ⟨w.heap.size, 5, none⟩ = some (.bool dn) ∧ X.cell? ⟨w.heap.size + 1, 0, none⟩ = some (.int .i64 kd) ∧ X.cell? ⟨w.heap.size + 1, 1, none⟩ = some (.string nm) ∧ X.cell? ⟨w.heap.size + 1, 2, none⟩ = some (.string dst) ∧ X.cell? ⟨w.heap.size + 1, 3, none⟩ = some (.string dat) ∧ X.cell? ⟨w.heap.size + 1, 4, none⟩ = some (.int .i64 n) ∧ FsAt X fv l ∧ Below w.heap.size w X
theorem SR.on {w : World} {fv : Value} {l : List PF} {q st : Int} {sv : Value} {si : Int} {dn : Bool} {kd : Int} {nm dst dat : ByteArray} {n : Int} {X Y : World} (h : SR w fv l q st sv si dn kd nm dst dat n X) (hb : Below X.heap.size X Y) : SR w fv l q st sv si dn kd nm dst dat n Y := by
  obtain ⟨a0, a1, a2, a3, a4, a5, b0, b1, b2, b3, b4, hf, hq⟩ := h
  have l0 := block_lt_of_cell a0
  have l1 := block_lt_of_cell b0
  refine ⟨?_, ?_, ?_, ?_, ?_, ?_, ?_, ?_, ?_, ?_, ?_, hf.on hb, hq.trans (hb.mono hq.size)⟩
  · rw [hb.cell (p := ⟨w.heap.size, 0, none⟩) l0]; exact a0
  · rw [hb.cell (p := ⟨w.heap.size, 1, none⟩) l0]; exact a1
  · rw [hb.cell (p := ⟨w.heap.size, 2, none⟩) l0]; exact a2
  · rw [hb.cell (p := ⟨w.heap.size, 3, none⟩) l0]; exact a3
  · rw [hb.cell (p := ⟨w.heap.size, 4, none⟩) l0]; exact a4
  · rw [hb.cell (p := ⟨w.heap.size, 5, none⟩) l0]; exact a5
  · rw [hb.cell (p := ⟨w.heap.size + 1, 0, none⟩) l1]; exact b0
  · rw [hb.cell (p := ⟨w.heap.size + 1, 1, none⟩) l1]; exact b1
  · rw [hb.cell (p := ⟨w.heap.size + 1, 2, none⟩) l1]; exact b2
  · rw [hb.cell (p := ⟨w.heap.size + 1, 3, none⟩) l1]; exact b3
  · rw [hb.cell (p := ⟨w.heap.size + 1, 4, none⟩) l1]; exact b4
theorem SR.new (w : World) (fv : Value) (l : List PF) (q st : Int) (sv : Value) (si : Int) (dn : Bool) (kd : Int) (nm dst dat : ByteArray) (n : Int) (h : FsAt w fv l) : SR w fv l q st sv si dn kd nm dst dat n ((w.alloc (.cells #[fv, .int .i64 q, .int .i64 st, sv, .int .i64 si, .bool dn] 32)).alloc (.cells #[.int .i64 kd, .string nm, .string dst, .string dat, .int .i64 n] 55)) := by
  have q1 : Below w.heap.size w (w.alloc (.cells #[fv, .int .i64 q, .int .i64 st, sv, .int .i64 si, .bool dn] 32)) := (Below.refl _ _).alloc (Nat.le_refl _) _
  have z1 : (w.alloc (.cells #[fv, .int .i64 q, .int .i64 st, sv, .int .i64 si, .bool dn] 32)).heap.size = w.heap.size + 1 := by simp
  have q2 : Below (w.heap.size + 1) (w.alloc (.cells #[fv, .int .i64 q, .int .i64 st, sv, .int .i64 si, .bool dn] 32)) ((w.alloc (.cells #[fv, .int .i64 q, .int .i64 st, sv, .int .i64 si, .bool dn] 32)).alloc (.cells #[.int .i64 kd, .string nm, .string dst, .string dat, .int .i64 n] 55)) := (Below.refl _ _).alloc (by omega) _
  have q3 := q1.trans (q2.mono (by omega))
  obtain ⟨c0, c1, c2, c3, c4, c5⟩ := (BoxD.new fv q st sv si dn w).on q2 (by omega)
  have r := heap_alloc_new (w.alloc (.cells #[fv, .int .i64 q, .int .i64 st, sv, .int .i64 si, .bool dn] 32)) (.cells #[.int .i64 kd, .string nm, .string dst, .string dat, .int .i64 n] 55)
  rw [z1] at r
  exact ⟨c0, c1, c2, c3, c4, c5, cell_of_row _ _ 0 _ _ _ r, cell_of_row _ _ 1 _ _ _ r, cell_of_row _ _ 2 _ _ _ r, cell_of_row _ _ 3 _ _ _ r, cell_of_row _ _ 4 _ _ _ r, h.on q3, q3⟩

set_option maxRecDepth 100000 in
set_option maxHeartbeats 2000000 in
theorem rrefused_any (fv : Value) (l : List PF) (q st : Int) (sv : Value) (si : Int) (dn : Bool) (kd : Int) (nm dst dat : ByteArray) (n : Int) (w : World) (h : FsAt w fv l) (hl : l.length ≤ 1000000000) (hu : usedP l ≤ 1000000000) (hd : ∀ p, p ∈ l → p.data.length ≤ 1000000000) (hs1 : nm.size ≤ 140737488355328) (hs2 : dst.size ≤ 140737488355328) (hs3 : dat.size ≤ 140737488355328) :
    Calls Tryz.prog 47 #[rdV fv q st sv si dn, opV kd nm dst dat n] w fun e w' => e = .returned (.int .i64 (refR q l kd nm dst dat n)) ∧ Below w.heap.size w w' := by
  have S0 := Lib.hid (SR.new w fv l q st sv si dn kd nm dst dat n h)
  have HN1 := Lib.hid (fun W => rIsName_any nm W hs1)
  have HN2 := Lib.hid (fun W => rIsName_any dst W hs2)
  have HFd := Lib.hid (fun X (hX : SR w fv l q st sv si dn kd nm dst dat n X) => (rfind_any fv l q st sv si dn nm X hX.2.2.2.2.2.2.2.2.2.2.2.1 hl).mono fun e w' ⟨k1, k2⟩ => (⟨k1, SR.on hX k2⟩ : e = Ending.returned (.int .i64 (findP nm l)) ∧ SR w fv l q st sv si dn kd nm dst dat n w'))
  have HUs := Lib.hid (fun X (hX : SR w fv l q st sv si dn kd nm dst dat n X) => (rUsed_any fv l q st sv si dn X hX.2.2.2.2.2.2.2.2.2.2.2.1 hl hu).mono fun e w' ⟨k1, k2⟩ => (⟨k1, SR.on hX k2⟩ : e = Ending.returned (.int .i64 (usedP l : Int)) ∧ SR w fv l q st sv si dn kd nm dst dat n w'))
  obtain ⟨a, cap, hv, _⟩ := h.form
  subst hv
  have HC := Lib.hid (findP_cases nm l)
  clear h hs1 hs2
  have hlI : (l.length : Int) ≤ 1000000000 := by omega
  unfold rdV at HFd HUs ⊢
  unfold opV
  obtain ⟨rv, hrv⟩ : ∃ x, x = refR q l kd nm dst dat n := ⟨_, rfl⟩
  rw [← hrv]
  unfold refR at hrv
  have HR := Lib.hid hrv
  clear hrv
  go_enter Tryz.func47, Tryz.ntmps47
  go_upto_region 1 with fail
  generalize ((w.alloc (.cells #[.slice a l.length cap, .int .i64 q, .int .i64 st, sv, .int .i64 si, .bool dn] 32)).alloc (.cells #[.int .i64 kd, .string nm, .string dst, .string dat, .int .i64 n] 55)) = W1 at S0 ⊢
  have HU3 : Hid (∀ x, x = (usedP l : Int) → x ≤ 1000000000 ∧ 0 ≤ x) := Lib.hid (fun x hx => by omega)
  clear hu
  generalize usedP l = ul at *
  generalize findP nm l = fi at *
  generalize isNm nm = n1 at *
  generalize isNm dst = n2 at *
  obtain ⟨a0, a1, a2, a3, a4, a5, b0, b1, b2, b3, b4, _, _⟩ := S0.out
  by_cases hk4 : kd = 4
  · subst hk4
    cases n1 with
    | false =>
      have HV : Hid (rv = 90) := Lib.hid (by rw [HR.out]; simp)
      go_wp2_with (go_at_call 67; first | (with_reducible refine (HN1.out _).mono ?_; rintro e w1 ⟨rfl, hw1⟩; rw [hw1]; clear hw1 w1) | (with_reducible refine (HN2.out _).mono ?_; rintro e w1 ⟨rfl, hw1⟩; rw [hw1]; clear hw1 w1))
      go_ret
      exact ⟨by rw [HV.out]; rfl, S0.out.2.2.2.2.2.2.2.2.2.2.2.2⟩
    | true =>
      cases n2 with
      | false =>
        have HV : Hid (rv = 90) := Lib.hid (by rw [HR.out]; simp)
        go_wp2_with (go_at_call 67; first | (with_reducible refine (HN1.out _).mono ?_; rintro e w1 ⟨rfl, hw1⟩; rw [hw1]; clear hw1 w1) | (with_reducible refine (HN2.out _).mono ?_; rintro e w1 ⟨rfl, hw1⟩; rw [hw1]; clear hw1 w1))
        go_ret
        exact ⟨by rw [HV.out]; rfl, S0.out.2.2.2.2.2.2.2.2.2.2.2.2⟩
      | true =>
        have HR2 : Hid (rv = match getP nm l with | none => 91 | some _ => 0) := Lib.hid (by rw [HR.out]; simp)
        go_upto_region 5 with (go_at_call 67; first | (with_reducible refine (HN1.out _).mono ?_; rintro e w1 ⟨rfl, hw1⟩; rw [hw1]; clear hw1 w1) | (with_reducible refine (HN2.out _).mono ?_; rintro e w1 ⟨rfl, hw1⟩; rw [hw1]; clear hw1 w1))
        go_wp2_with fail
        refine (HFd.out _ S0.out).mono ?_
        rintro e w2 ⟨rfl, hs2⟩
        have S2 := Lib.hid hs2
        clear hs2 a0 a1 a2 a3 a4 a5 b0 b1 b2 b3 b4
        obtain ⟨a0, a1, a2, a3, a4, a5, b0, b1, b2, b3, b4, hf, _⟩ := S2.out
        rcases HC.out with ⟨h1, rfl⟩ | ⟨i, p, h1, rfl, h3, _⟩
        · have HV : Hid (rv = 91) := Lib.hid (by rw [HR2.out, h1])
          clear h1 HC
          go_wp2
          go_ret
          exact ⟨by rw [HV.out]; rfl, S2.out.2.2.2.2.2.2.2.2.2.2.2.2⟩
        · have HV : Hid (rv = 0) := Lib.hid (by rw [HR2.out, h1])
          clear h1 h3 HC hf
          go_wp2_with fail
          go_quiet (fail)
          go_wp2_with fail
          go_ret
          exact ⟨by rw [HV.out]; rfl, below_drewN S2.out.2.2.2.2.2.2.2.2.2.2.2.2 _⟩
  · have hk4n : (kd != 4) = true := bne_iff_ne.2 hk4
    have hk4e : (kd == 4) = false := beq_eq_false_iff_ne.2 hk4
    cases n1 with
    | false =>
      have HV : Hid (rv = 90) := Lib.hid (by rw [HR.out]; simp)
      clear hk4
      go_wp2_with (go_at_call 67; with_reducible refine (HN1.out _).mono ?_; rintro e w1 ⟨rfl, hw1⟩; rw [hw1]; clear hw1 w1)
      go_ret
      exact ⟨by rw [HV.out]; rfl, S0.out.2.2.2.2.2.2.2.2.2.2.2.2⟩
    | true =>
      go_upto_region 5 with (go_at_call 67; with_reducible refine (HN1.out _).mono ?_; rintro e w1 ⟨rfl, hw1⟩; rw [hw1]; clear hw1 w1)
      go_wp2_with fail
      refine (HFd.out _ S0.out).mono ?_
      rintro e w2 ⟨rfl, hs2⟩
      have S2 := Lib.hid hs2
      clear hs2 a0 a1 a2 a3 a4 a5 b0 b1 b2 b3 b4
      obtain ⟨a0, a1, a2, a3, a4, a5, b0, b1, b2, b3, b4, hf, _⟩ := S2.out
      by_cases hk1 : kd = 1
      · subst hk1
        have HR2 : Hid (rv = if q < (ul : Int) + (dat.size : Int) then 92 else 0) := Lib.hid (by rw [HR.out]; simp)
        have hub := (HU3.out _ rfl).1
        have hub0 := (HU3.out _ rfl).2
        have hwr : IntKind.i64.wrap ((ul : Int) + (dat.size : Int)) = (ul : Int) + (dat.size : Int) := by simp [IntKind.wrap, IntKind.bits, IntKind.signed]; omega
        have S3 := Lib.hid (SR.on S2.out (Below.refl _ _).drew)
        by_cases hqu : q < (ul : Int) + (dat.size : Int)
        · have HV : Hid (rv = 92) := Lib.hid (by rw [HR2.out, if_pos hqu])
          clear HC HR HR2 HN1 HN2 HFd hf
          go_wp2
          go_region_held3 (fun X => X.cell? ⟨w.heap.size, 0, none⟩ = some (.slice a l.length cap) ∧ X.cell? ⟨w.heap.size, 1, none⟩ = some (.int .i64 q) ∧ X.cell? ⟨w.heap.size, 2, none⟩ = some (.int .i64 st) ∧ X.cell? ⟨w.heap.size, 3, none⟩ = some (sv) ∧ X.cell? ⟨w.heap.size, 4, none⟩ = some (.int .i64 si) ∧ X.cell? ⟨w.heap.size, 5, none⟩ = some (.bool dn) ∧ X.cell? ⟨w.heap.size + 1, 0, none⟩ = some (.int .i64 1) ∧ X.cell? ⟨w.heap.size + 1, 1, none⟩ = some (.string nm) ∧ X.cell? ⟨w.heap.size + 1, 2, none⟩ = some (.string dst) ∧ X.cell? ⟨w.heap.size + 1, 3, none⟩ = some (.string dat) ∧ X.cell? ⟨w.heap.size + 1, 4, none⟩ = some (.int .i64 n) ∧ FsAt X (.slice a l.length cap) l ∧ Below w.heap.size w X) (first | with_reducible exact S3.out | with_reducible assumption) (first | (go_at_call 28; with_reducible refine (HUs.out _ ?_).mono ?_; with_reducible assumption; rintro e w4 ⟨rfl, hs4⟩))
          go_wp2
          go_ret
          exact ⟨by rw [HV.out]; rfl, hs4.2.2.2.2.2.2.2.2.2.2.2.2⟩
        · have HV : Hid (rv = 0) := Lib.hid (by rw [HR2.out, if_neg hqu])
          clear HC HR HR2 HN1 HN2 HFd hf
          go_wp2
          go_region_held3 (fun X => X.cell? ⟨w.heap.size, 0, none⟩ = some (.slice a l.length cap) ∧ X.cell? ⟨w.heap.size, 1, none⟩ = some (.int .i64 q) ∧ X.cell? ⟨w.heap.size, 2, none⟩ = some (.int .i64 st) ∧ X.cell? ⟨w.heap.size, 3, none⟩ = some (sv) ∧ X.cell? ⟨w.heap.size, 4, none⟩ = some (.int .i64 si) ∧ X.cell? ⟨w.heap.size, 5, none⟩ = some (.bool dn) ∧ X.cell? ⟨w.heap.size + 1, 0, none⟩ = some (.int .i64 1) ∧ X.cell? ⟨w.heap.size + 1, 1, none⟩ = some (.string nm) ∧ X.cell? ⟨w.heap.size + 1, 2, none⟩ = some (.string dst) ∧ X.cell? ⟨w.heap.size + 1, 3, none⟩ = some (.string dat) ∧ X.cell? ⟨w.heap.size + 1, 4, none⟩ = some (.int .i64 n) ∧ FsAt X (.slice a l.length cap) l ∧ Below w.heap.size w X) (first | with_reducible exact S3.out | with_reducible assumption) (first | (go_at_call 28; with_reducible refine (HUs.out _ ?_).mono ?_; with_reducible assumption; rintro e w4 ⟨rfl, hs4⟩))
          go_wp2
          go_ret
          exact ⟨by rw [HV.out]; rfl, hs4.2.2.2.2.2.2.2.2.2.2.2.2⟩
      · have hk1n : (kd == 1) = false := beq_eq_false_iff_ne.2 hk1
        have HR2 : Hid (rv = match getP nm l with | none => 91 | some p => if kd == 6 && (decide (n < 0) || decide ((p.data.length : Int) < n)) then 3 else 0) := Lib.hid (by rw [HR.out]; simp [hk4, hk1])
        rcases HC.out with ⟨h1, rfl⟩ | ⟨i, p, h1, rfl, h3, _⟩
        · have HV : Hid (rv = 91) := Lib.hid (by rw [HR2.out, h1])
          clear h1 HC HR HR2
          go_wp2
          go_ret
          exact ⟨by rw [HV.out]; rfl, S2.out.2.2.2.2.2.2.2.2.2.2.2.2⟩
        · have HV : Hid (rv = if kd == 6 && (decide (n < 0) || decide ((p.data.length : Int) < n)) then 3 else 0) := Lib.hid (by rw [HR2.out, h1])
          have hi : i < l.length := (List.getElem?_eq_some_iff.1 h3).1
          have hiI : (i : Int) < (l.length : Int) := by omega
          have hpd := hd p (List.mem_of_getElem? h3)
          obtain ⟨g, ha, e1, e2, e3⟩ := hf.get h3
          subst ha
          have hsz : (S p.data).size = p.data.length := S_size _
          clear h1 h3 HC HR HR2 hf hd
          generalize p.data.length = pl at *
          generalize S p.data = t at *
          by_cases hk6 : kd = 6
          · subst hk6
            by_cases hn0 : n < 0
            · have HW : Hid (rv = 3) := Lib.hid (by rw [HV.out]; simp [hn0])
              have dn0 : decide (n < 0) = true := decide_eq_true hn0
              go_wp2_with fail
              go_quiet (fail)
              go_wp2_with fail
              go_ret
              exact ⟨by rw [HW.out]; rfl, below_drewN S2.out.2.2.2.2.2.2.2.2.2.2.2.2 _⟩
            · have dn0 : decide (n < 0) = false := decide_eq_false hn0
              by_cases hn1 : (pl : Int) < n
              · have HW : Hid (rv = 3) := Lib.hid (by rw [HV.out]; simp [hn1])
                have dn1 : decide ((pl : Int) < n) = true := decide_eq_true hn1
                go_wp2_with fail
                go_quiet (fail)
                go_wp2_with fail
                go_ret
                exact ⟨by rw [HW.out]; rfl, below_drewN S2.out.2.2.2.2.2.2.2.2.2.2.2.2 _⟩
              · have HW : Hid (rv = 0) := Lib.hid (by rw [HV.out]; simp [hn0, hn1])
                have dn1 : decide ((pl : Int) < n) = false := decide_eq_false hn1
                go_wp2_with fail
                go_quiet (fail)
                go_wp2_with fail
                go_ret
                exact ⟨by rw [HW.out]; rfl, below_drewN S2.out.2.2.2.2.2.2.2.2.2.2.2.2 _⟩
          · have hk6n : (kd == 6) = false := beq_eq_false_iff_ne.2 hk6
            have HW : Hid (rv = 0) := Lib.hid (by rw [HV.out]; simp [hk6])
            go_wp2_with fail
            go_quiet (fail)
            go_wp2_with fail
            go_ret
            exact ⟨by rw [HW.out]; rfl, below_drewN S2.out.2.2.2.2.2.2.2.2.2.2.2.2 _⟩
end Go.Proofs.YtgafomknpdnfcaaGreatDoor

/- The document's disk: done, up to the file at hand. -/
namespace Go.Proofs.YtgafomknpdnfcaaGreatDoor
open Go.RowKit

theorem Tryz.sizeRFile : (Tryz.prog.info? 95).map (·.size) = some 3 := by kernel_rfl
theorem file_one (a b : ByteArray) (c : Int) : ((#[.string a, .string b, .int .i64 c] : Array Value).all (·.oneCell')) = true := by simp [Value.oneCell']
theorem SR_app (a b : List UInt8) : S a ++ S b = S (a ++ b) := by
  apply ByteArray.ext
  simp [S]
/-- The file that an operation is about. -/
def fileP (nm : ByteArray) (l : List PF) : PF := (getP nm l).getD ⟨nm, [], 0⟩
/-- The files behind an operation that is not refused. -/
def doneR (l : List PF) (kd : Int) (nm dst dat : ByteArray) (n : Int) : List PF :=
  if kd = 1 then withP { fileP nm l with data := (fileP nm l).data ++ L dat } l
  else if kd = 2 then withP { fileP nm l with dur := (fileP nm l).data.length } l
  else if kd = 4 then withP { fileP nm l with name := dst } (withoutP nm l)
  else if kd = 5 then withoutP nm l
  else if kd = 6 then withP ⟨(fileP nm l).name, (fileP nm l).data.take n.toNat, min (fileP nm l).dur n.toNat⟩ l
  else withP (fileP nm l) l
structure DoneAt (w : World) (fv : Value) (l : List PF) (q st : Int) (sv : Value) (si : Int) (dn : Bool) (kd : Int) (nm dst dat : ByteArray) (n : Int) (b : Nat) (f : PF) (X : World) : Prop where
  sr : SR w fv l q st sv si dn kd nm dst dat n X
  row : X.heap[b]? = some (.cells #[.string f.name, .string (S f.data), .int .i64 (f.dur : Int)] 95 (0, 0))
  hi : w.heap.size + 2 ≤ b
  fs : FsAt w fv l
theorem DoneAt.fsx {w : World} {fv : Value} {l : List PF} {q st : Int} {sv : Value} {si : Int} {dn : Bool} {kd : Int} {nm dst dat : ByteArray} {n : Int} {b : Nat} {f : PF} {X : World} (h : DoneAt w fv l q st sv si dn kd nm dst dat n b f X) : FsAt X fv l := h.sr.2.2.2.2.2.2.2.2.2.2.2.1
theorem DoneAt.below {w : World} {fv : Value} {l : List PF} {q st : Int} {sv : Value} {si : Int} {dn : Bool} {kd : Int} {nm dst dat : ByteArray} {n : Int} {b : Nat} {f : PF} {X : World} (h : DoneAt w fv l q st sv si dn kd nm dst dat n b f X) : Below w.heap.size w X := h.sr.2.2.2.2.2.2.2.2.2.2.2.2
theorem DoneAt.put {w : World} {fv : Value} {l : List PF} {q st : Int} {sv : Value} {si : Int} {dn : Bool} {kd : Int} {nm dst dat : ByteArray} {n : Int} {b : Nat} {f : PF} {X : World} (h : DoneAt w fv l q st sv si dn kd nm dst dat n b f X) (i : Nat) (v : Value) (f' : PF)
    (e : (#[.string f.name, .string (S f.data), .int .i64 (f.dur : Int)] : Array Value).setIfInBounds i v = #[.string f'.name, .string (S f'.data), .int .i64 (f'.dur : Int)]) : DoneAt w fv l q st sv si dn kd nm dst dat n b f' (X.setCell ⟨b, i, none⟩ v) := by
  have hh := h.hi
  have hb := h.below.setCell (p := ⟨b, i, none⟩) (by show w.heap.size ≤ b; omega) v
  obtain ⟨a0, a1, a2, a3, a4, a5, b0, b1, b2, b3, b4, _, _⟩ := h.sr
  have e0 : (X.setCell ⟨b, i, none⟩ v).heap[w.heap.size]? = X.heap[w.heap.size]? := Below.heap_setCell _ _ _ _ (by show w.heap.size ≠ b; omega)
  have e1 : (X.setCell ⟨b, i, none⟩ v).heap[w.heap.size + 1]? = X.heap[w.heap.size + 1]? := Below.heap_setCell _ _ _ _ (by show w.heap.size + 1 ≠ b; omega)
  have g0 : ∀ j, (X.setCell ⟨b, i, none⟩ v).cell? ⟨w.heap.size, j, none⟩ = X.cell? ⟨w.heap.size, j, none⟩ := fun j => World.cell?_of_block e0
  have g1 : ∀ j, (X.setCell ⟨b, i, none⟩ v).cell? ⟨w.heap.size + 1, j, none⟩ = X.cell? ⟨w.heap.size + 1, j, none⟩ := fun j => World.cell?_of_block e1
  refine ⟨⟨?_, ?_, ?_, ?_, ?_, ?_, ?_, ?_, ?_, ?_, ?_, h.fs.on hb, hb⟩, ?_, h.hi, h.fs⟩
  · rw [g0]; exact a0
  · rw [g0]; exact a1
  · rw [g0]; exact a2
  · rw [g0]; exact a3
  · rw [g0]; exact a4
  · rw [g0]; exact a5
  · rw [g1]; exact b0
  · rw [g1]; exact b1
  · rw [g1]; exact b2
  · rw [g1]; exact b3
  · rw [g1]; exact b4
  · rw [heap_setCell_same X b i _ 95 v h.row, e]
theorem doneR_else (l : List PF) (kd : Int) (nm dst dat : ByteArray) (n : Int) (h1 : kd ≠ 1) (h2 : kd ≠ 2) (h4 : kd ≠ 4) (h5 : kd ≠ 5) (h6 : kd ≠ 6) : doneR l kd nm dst dat n = withP (fileP nm l) l := by
  unfold doneR; rw [if_neg h1, if_neg h2, if_neg h4, if_neg h5, if_neg h6]

set_option maxRecDepth 100000 in
set_option maxHeartbeats 1000000 in
/-- All kinds but Rename and Truncate. -/
theorem rdone_most (fv : Value) (l : List PF) (q st : Int) (sv : Value) (si : Int) (dn : Bool) (kd : Int) (nm dst dat : ByteArray) (n : Int) (w : World) (h : FsAt w fv l) (hl : l.length ≤ 1000000000) (hd : ∀ p, p ∈ l → p.data.length ≤ 1000000000) (hs3 : dat.size ≤ 140737488355328) (hk4 : kd ≠ 4) (hk6 : kd ≠ 6) :
    Calls Tryz.prog 49 #[rdV fv q st sv si dn, opV kd nm dst dat n] w fun e w' => ∃ v, e = .returned v ∧ OwnF w.heap.size v (doneR l kd nm dst dat n) w w' := by
  have S0 := Lib.hid (SR.new w fv l q st sv si dn kd nm dst dat n h)
  have HFd := Lib.hid (fun X (hX : SR w fv l q st sv si dn kd nm dst dat n X) => (rfind_any fv l q st sv si dn nm X hX.2.2.2.2.2.2.2.2.2.2.2.1 hl).mono fun e w' ⟨k1, k2⟩ => (⟨k1, SR.on hX k2⟩ : e = Ending.returned (.int .i64 (findP nm l)) ∧ SR w fv l q st sv si dn kd nm dst dat n w'))
  obtain ⟨a, cap, hv, _⟩ := h.form
  have H0 := Lib.hid h
  subst hv
  have HC := Lib.hid (findP_cases nm l)
  clear h
  have hlI : (l.length : Int) ≤ 1000000000 := by omega
  unfold rdV at HFd ⊢
  unfold opV
  generalize findP nm l = fi at *
  go_enter Tryz.func49, Tryz.ntmps49
  go_upto_region 1 with fail
  generalize ((w.alloc (.cells #[.slice a l.length cap, .int .i64 q, .int .i64 st, sv, .int .i64 si, .bool dn] 32)).alloc (.cells #[.int .i64 kd, .string nm, .string dst, .string dat, .int .i64 n] 55)) = W1 at S0 ⊢
  obtain ⟨a0, a1, a2, a3, a4, a5, b0, b1, b2, b3, b4, _, _⟩ := S0.out
  go_wp2_with fail
  refine (HFd.out _ S0.out).mono ?_
  rintro e w2 ⟨rfl, hs2⟩
  have S2 := Lib.hid hs2
  clear hs2 a0 a1 a2 a3 a4 a5 b0 b1 b2 b3 b4 S0
  obtain ⟨a0, a1, a2, a3, a4, a5, b0, b1, b2, b3, b4, hf, hq⟩ := S2.out
  have HF := Lib.hid hf
  have HQ := Lib.hid hq
  have HI2 : Hid (w.heap.size + 2 ≤ w2.heap.size) := Lib.hid (by have h9 : w.heap.size + 1 < w2.heap.size := block_lt_of_cell b0; omega)
  clear hf hq
  have R0 := Lib.hid (heap_alloc_new w2 (.cells #[.string nm, .string ⟨#[]⟩, .int .i64 0] 95))
  have B0 : Hid (Below w2.heap.size w2 (w2.alloc (.cells #[.string nm, .string ⟨#[]⟩, .int .i64 0] 95))) := Lib.hid ((Below.refl _ _).alloc (Nat.le_refl _) _)
  go_upto_if 16 with fail
  go_cut [5] (fun s5 wx => DoneAt w (.slice a l.length cap) l q st sv si dn kd nm dst dat n w2.heap.size (fileP nm l) wx)
  case first =>
    rcases HC.out with ⟨h1, rfl⟩ | ⟨i, p, h1, rfl, h3, hpn⟩
    · have HP : Hid (fileP nm l = ⟨nm, [], 0⟩) := Lib.hid (by unfold fileP; rw [h1]; rfl)
      clear h1 HC
      go_wp2_with fail
      go_meet
      exact ⟨SR.on S2.out B0.out, by rw [HP.out]; exact R0.out, HI2.out, H0.out⟩
    · have HP : Hid (fileP nm l = p) := Lib.hid (by unfold fileP; rw [h1]; rfl)
      clear hpn
      have hi : i < l.length := (List.getElem?_eq_some_iff.1 h3).1
      have hiI : (i : Int) < (l.length : Int) := by omega
      have HF1 := Lib.hid (HF.out.on B0.out)
      have S1 := Lib.hid (SR.on S2.out B0.out)
      clear a0 a1 a2 a3 a4 a5 b0 b1 b2 b3 b4
      generalize w2.alloc (.cells #[.string nm, .string ⟨#[]⟩, .int .i64 0] 95) = X1 at *
      obtain ⟨a0, a1, a2, a3, a4, a5, b0, b1, b2, b3, b4, _, _⟩ := S1.out
      obtain ⟨g, ha, e1, e2, e3⟩ := HF1.out.get h3
      subst ha
      clear h1 h3 HC
      obtain ⟨bb, hbb⟩ : ∃ x, x = w2.heap.size := ⟨_, rfl⟩
      rw [← hbb] at R0 ⊢
      have k0 := cell_of_row X1 bb 0 _ _ _ R0.out
      have k1 := cell_of_row X1 bb 1 _ _ _ R0.out
      have k2 := cell_of_row X1 bb 2 _ _ _ R0.out
      have f0 := frozen_of_row X1 bb 0 _ _ R0.out
      have f1 := frozen_of_row X1 bb 1 _ _ R0.out
      have f2 := frozen_of_row X1 bb 2 _ _ R0.out
      simp at k0 k1 k2
      have r1 := heap_setCell_same X1 bb 0 _ 95 (.string p.name) R0.out
      have r2 := heap_setCell_same _ bb 1 _ 95 (.string (S p.data)) r1
      have r3 := heap_setCell_same _ bb 2 _ 95 (.int .i64 (p.dur : Int)) r2
      have R3 := Lib.hid r3
      have B3 := Lib.hid (((B0.out.setCell (p := ⟨bb, 0, none⟩) (by show w2.heap.size ≤ bb; omega) (.string p.name)).setCell (p := ⟨bb, 1, none⟩) (by show w2.heap.size ≤ bb; omega) (.string (S p.data))).setCell (p := ⟨bb, 2, none⟩) (by show w2.heap.size ≤ bb; omega) (.int .i64 (p.dur : Int)))
      have HBB := Lib.hid hbb
      clear r1 r2 r3 hbb
      go_wp2_with fail
      have hbb := HBB.out
      clear HBB
      subst hbb
      go_meet
      exact ⟨SR.on S2.out B3.out, by rw [HP.out]; simpa using R3.out, HI2.out, H0.out⟩
  case rest =>
    have D0 := Lib.hid hcut
    clear hcut HC R0 B0 S2 HF HQ HFd HI2 H0 a0 a1 a2 a3 a4 a5 b0 b1 b2 b3 b4
    obtain ⟨b, hb⟩ : ∃ x, x = w2.heap.size := ⟨_, rfl⟩
    rw [← hb] at D0 ⊢
    clear hb
    have HWt := Lib.hid (fun X (hX : FsAt X (.slice a l.length cap) l) f => rwith_any (.slice a l.length cap) l f X hX hl)
    have HWo := Lib.hid (fun X (hX : FsAt X (.slice a l.length cap) l) => rwithout_any (.slice a l.length cap) l nm X hX hl)
    unfold fileV at HWt
    by_cases hk5 : kd = 5
    · subst hk5
      have HD : Hid (doneR l 5 nm dst dat n = withoutP nm l) := Lib.hid (by unfold doneR; simp)
      have k0 := cell_of_row wc b 0 _ _ _ D0.out.row
      have k1 := cell_of_row wc b 1 _ _ _ D0.out.row
      have k2 := cell_of_row wc b 2 _ _ _ D0.out.row
      simp at k0 k1 k2
      obtain ⟨a0, a1, a2, a3, a4, a5, b0, b1, b2, b3, b4, _, _⟩ := D0.out.sr
      go_wp2_with fail
      refine (HWo.out _ D0.out.fsx).mono ?_
      rintro e w3 ⟨v3, rfl, hO⟩
      go_wp2_with fail
      go_ret
      exact ⟨_, rfl, by rw [HD.out]; exact hO.under D0.out.below.size D0.out.below⟩
    · by_cases hk2 : kd = 2
      · subst hk2
        have HD : Hid (doneR l 2 nm dst dat n = withP { fileP nm l with dur := (fileP nm l).data.length } l) := Lib.hid (by unfold doneR; simp)
        have D1 := Lib.hid (D0.out.put 2 (.int .i64 ((fileP nm l).data.length : Int)) { fileP nm l with dur := (fileP nm l).data.length } (by simp))
        generalize fileP nm l = f at *
        have k0 := cell_of_row wc b 0 _ _ _ D0.out.row
        have k1 := cell_of_row wc b 1 _ _ _ D0.out.row
        have k2 := cell_of_row wc b 2 _ _ _ D0.out.row
        simp at k0 k1 k2
        obtain ⟨a0, a1, a2, a3, a4, a5, b0, b1, b2, b3, b4, _, _⟩ := D0.out.sr
        have f2 := frozen_of_row wc b 2 _ _ D0.out.row
        have hsz : (S f.data).size = f.data.length := S_size _
        go_upto_region 19 with fail
        generalize wc.setCell ⟨b, 2, none⟩ (.int .i64 (f.data.length : Int)) = Y at D1 ⊢
        clear k0 k1 k2 a0 a1 a2 a3 a4 a5 b0 b1 b2 b3 b4 f2 D0
        have k0 := cell_of_row Y b 0 _ _ _ D1.out.row
        have k1 := cell_of_row Y b 1 _ _ _ D1.out.row
        have k2 := cell_of_row Y b 2 _ _ _ D1.out.row
        simp at k0 k1 k2
        obtain ⟨a0, a1, a2, a3, a4, a5, b0, b1, b2, b3, b4, _, _⟩ := D1.out.sr
        go_wp2_with fail
        refine (HWt.out _ D1.out.fsx { f with dur := f.data.length }).mono ?_
        rintro e w3 ⟨v3, rfl, hO⟩
        go_wp2_with fail
        go_ret
        exact ⟨_, rfl, by rw [HD.out]; exact hO.under D1.out.below.size D1.out.below⟩
      · by_cases hk1 : kd = 1
        · subst hk1
          have HD : Hid (doneR l 1 nm dst dat n = withP { fileP nm l with data := (fileP nm l).data ++ L dat } l) := Lib.hid (by unfold doneR; simp)
          have hfl : (fileP nm l).data.length ≤ 1000000000 := by
            unfold fileP
            cases hg : getP nm l with
            | none => simp
            | some p => exact hd p (List.mem_of_find?_eq_some hg)
          generalize fileP nm l = f at *
          have hS : S (f.data ++ L dat) = S f.data ++ dat := by rw [← SR_app, S_L]
          have D1 := Lib.hid (D0.out.put 1 (.string (S f.data ++ dat)) { f with data := f.data ++ L dat } (by rw [← hS]; simp))
          have HSS := Lib.hid hS
          have k0 := cell_of_row wc b 0 _ _ _ D0.out.row
          have k1 := cell_of_row wc b 1 _ _ _ D0.out.row
          have k2 := cell_of_row wc b 2 _ _ _ D0.out.row
          simp at k0 k1 k2
          obtain ⟨a0, a1, a2, a3, a4, a5, b0, b1, b2, b3, b4, _, _⟩ := D0.out.sr
          have f1 := frozen_of_row wc b 1 _ _ D0.out.row
          have hsz : (S f.data).size = f.data.length := S_size _
          clear hS
          go_upto_region 19 with fail
          generalize wc.setCell ⟨b, 1, none⟩ (.string (S f.data ++ dat)) = Y at D1 ⊢
          clear k0 k1 k2 a0 a1 a2 a3 a4 a5 b0 b1 b2 b3 b4 f1 D0
          have k0 := cell_of_row Y b 0 _ _ _ D1.out.row
          have k1 := cell_of_row Y b 1 _ _ _ D1.out.row
          have k2 := cell_of_row Y b 2 _ _ _ D1.out.row
          simp at k0 k1 k2
          obtain ⟨a0, a1, a2, a3, a4, a5, b0, b1, b2, b3, b4, _, _⟩ := D1.out.sr
          go_wp2_with fail
          refine (HWt.out _ D1.out.fsx { f with data := f.data ++ L dat }).mono ?_
          rintro e w3 ⟨v3, rfl, hO⟩
          go_wp2_with fail
          go_ret
          exact ⟨_, rfl, by rw [HD.out]; exact hO.under D1.out.below.size D1.out.below⟩
        · have HD : Hid (doneR l kd nm dst dat n = withP (fileP nm l) l) := Lib.hid (doneR_else l kd nm dst dat n hk1 hk2 hk4 hk5 hk6)
          generalize fileP nm l = f at *
          have n1 : (kd == 1) = false := beq_eq_false_iff_ne.2 hk1
          have n2 : (kd == 2) = false := beq_eq_false_iff_ne.2 hk2
          have n4 : (kd == 4) = false := beq_eq_false_iff_ne.2 hk4
          have n5 : (kd == 5) = false := beq_eq_false_iff_ne.2 hk5
          have n6 : (kd == 6) = false := beq_eq_false_iff_ne.2 hk6
          have k0 := cell_of_row wc b 0 _ _ _ D0.out.row
          have k1 := cell_of_row wc b 1 _ _ _ D0.out.row
          have k2 := cell_of_row wc b 2 _ _ _ D0.out.row
          simp at k0 k1 k2
          obtain ⟨a0, a1, a2, a3, a4, a5, b0, b1, b2, b3, b4, _, _⟩ := D0.out.sr
          go_wp2_with fail
          refine (HWt.out _ D0.out.fsx f).mono ?_
          rintro e w3 ⟨v3, rfl, hO⟩
          go_wp2_with fail
          go_ret
          exact ⟨_, rfl, by rw [HD.out]; exact hO.under D0.out.below.size D0.out.below⟩
end Go.Proofs.YtgafomknpdnfcaaGreatDoor

/- The document's disk: done, Rename and Truncate. -/
namespace Go.Proofs.YtgafomknpdnfcaaGreatDoor
open Go.RowKit

theorem DoneAt.on {w : World} {fv : Value} {l : List PF} {q st : Int} {sv : Value} {si : Int} {dn : Bool} {kd : Int} {nm dst dat : ByteArray} {n : Int} {b : Nat} {f : PF} {X Y : World} (h : DoneAt w fv l q st sv si dn kd nm dst dat n b f X) (hb : Below X.heap.size X Y) : DoneAt w fv l q st sv si dn kd nm dst dat n b f Y :=
  ⟨SR.on h.sr hb, by rw [hb.block _ (Array.getElem?_eq_some_iff.1 h.row).1]; exact h.row, h.hi, h.fs⟩
theorem OwnF.at_put {B b : Nat} {v : Value} {l : List PF} {W0 w : World} (h : OwnF B v l W0 w) (x : Value) (i : Nat) (hb : b < B) : FsAt (w.setCell ⟨b, i, none⟩ x) v l := by
  rcases h.at with e | ⟨g, cap, h1, h2, h3⟩
  · exact .inl e
  · have hg : b ≠ g := by
      rcases h.row.2 with ⟨e, _⟩ | ⟨g', cap', cur, e, hB, _, _⟩
      · rw [h1] at e; cases e
      · rw [h1] at e; cases e; omega
    have hh : (w.setCell ⟨b, i, none⟩ x).heap[g]? = w.heap[g]? := Below.heap_setCell _ _ _ _ (by show g ≠ b; omega)
    have hz : g < (w.setCell ⟨b, i, none⟩ x).heap.size := by
      have : ∃ o, w.heap[g]? = some o := ⟨_, Array.getElem?_eq_getElem h2⟩
      obtain ⟨o, ho⟩ := this
      rw [ho] at hh
      exact (Array.getElem?_eq_some_iff.1 hh).1
    exact .inr ⟨g, cap, h1, hz, fun j p hp => ⟨by rw [World.cell?_of_block hh]; exact (h3 j p hp).1, by rw [World.cell?_of_block hh]; exact (h3 j p hp).2.1, by rw [World.cell?_of_block hh]; exact (h3 j p hp).2.2⟩⟩

set_option maxRecDepth 100000 in
set_option maxHeartbeats 1000000 in
/-- Truncate. -/
theorem rdone_6 (fv : Value) (l : List PF) (q st : Int) (sv : Value) (si : Int) (dn : Bool) (kd : Int) (nm dst dat : ByteArray) (n : Int) (w : World) (h : FsAt w fv l) (hl : l.length ≤ 1000000000) (hk6 : kd = 6) (m : Nat) (hnm : n = (m : Int)) (hm : m ≤ (fileP nm l).data.length) :
    Calls Tryz.prog 49 #[rdV fv q st sv si dn, opV kd nm dst dat n] w fun e w' => ∃ v, e = .returned v ∧ OwnF w.heap.size v (doneR l kd nm dst dat n) w w' := by
  subst hk6 hnm
  have S0 := Lib.hid (SR.new w fv l q st sv si dn 6 nm dst dat (m : Int) h)
  have HFd := Lib.hid (fun X (hX : SR w fv l q st sv si dn 6 nm dst dat (m : Int) X) => (rfind_any fv l q st sv si dn nm X hX.2.2.2.2.2.2.2.2.2.2.2.1 hl).mono fun e w' ⟨k1, k2⟩ => (⟨k1, SR.on hX k2⟩ : e = Ending.returned (.int .i64 (findP nm l)) ∧ SR w fv l q st sv si dn 6 nm dst dat (m : Int) w'))
  obtain ⟨a, cap, hv, _⟩ := h.form
  have H0 := Lib.hid h
  subst hv
  have HC := Lib.hid (findP_cases nm l)
  clear h
  have hlI : (l.length : Int) ≤ 1000000000 := by omega
  unfold rdV at HFd ⊢
  unfold opV
  generalize findP nm l = fi at *
  go_enter Tryz.func49, Tryz.ntmps49
  go_upto_region 1 with fail
  generalize ((w.alloc (.cells #[.slice a l.length cap, .int .i64 q, .int .i64 st, sv, .int .i64 si, .bool dn] 32)).alloc (.cells #[.int .i64 6, .string nm, .string dst, .string dat, .int .i64 (m : Int)] 55)) = W1 at S0 ⊢
  obtain ⟨a0, a1, a2, a3, a4, a5, b0, b1, b2, b3, b4, _, _⟩ := S0.out
  go_wp2_with fail
  refine (HFd.out _ S0.out).mono ?_
  rintro e w2 ⟨rfl, hs2⟩
  have S2 := Lib.hid hs2
  clear hs2 a0 a1 a2 a3 a4 a5 b0 b1 b2 b3 b4 S0
  obtain ⟨a0, a1, a2, a3, a4, a5, b0, b1, b2, b3, b4, hf, hq⟩ := S2.out
  have HF := Lib.hid hf
  have HQ := Lib.hid hq
  have HI2 : Hid (w.heap.size + 2 ≤ w2.heap.size) := Lib.hid (by have h9 : w.heap.size + 1 < w2.heap.size := block_lt_of_cell b0; omega)
  clear hf hq
  have R0 := Lib.hid (heap_alloc_new w2 (.cells #[.string nm, .string ⟨#[]⟩, .int .i64 0] 95))
  have B0 : Hid (Below w2.heap.size w2 (w2.alloc (.cells #[.string nm, .string ⟨#[]⟩, .int .i64 0] 95))) := Lib.hid ((Below.refl _ _).alloc (Nat.le_refl _) _)
  go_upto_if 16 with fail
  go_cut [5] (fun s5 wx => DoneAt w (.slice a l.length cap) l q st sv si dn 6 nm dst dat (m : Int) w2.heap.size (fileP nm l) wx)
  case first =>
    rcases HC.out with ⟨h1, rfl⟩ | ⟨i, p, h1, rfl, h3, hpn⟩
    · have HP : Hid (fileP nm l = ⟨nm, [], 0⟩) := Lib.hid (by unfold fileP; rw [h1]; rfl)
      clear h1 HC
      go_wp2_with fail
      go_meet
      exact ⟨SR.on S2.out B0.out, by rw [HP.out]; exact R0.out, HI2.out, H0.out⟩
    · have HP : Hid (fileP nm l = p) := Lib.hid (by unfold fileP; rw [h1]; rfl)
      clear hpn
      have hi : i < l.length := (List.getElem?_eq_some_iff.1 h3).1
      have hiI : (i : Int) < (l.length : Int) := by omega
      have HF1 := Lib.hid (HF.out.on B0.out)
      have S1 := Lib.hid (SR.on S2.out B0.out)
      clear a0 a1 a2 a3 a4 a5 b0 b1 b2 b3 b4
      generalize w2.alloc (.cells #[.string nm, .string ⟨#[]⟩, .int .i64 0] 95) = X1 at *
      obtain ⟨a0, a1, a2, a3, a4, a5, b0, b1, b2, b3, b4, _, _⟩ := S1.out
      obtain ⟨g, ha, e1, e2, e3⟩ := HF1.out.get h3
      subst ha
      clear h1 h3 HC
      obtain ⟨bb, hbb⟩ : ∃ x, x = w2.heap.size := ⟨_, rfl⟩
      rw [← hbb] at R0 ⊢
      have k0 := cell_of_row X1 bb 0 _ _ _ R0.out
      have k1 := cell_of_row X1 bb 1 _ _ _ R0.out
      have k2 := cell_of_row X1 bb 2 _ _ _ R0.out
      have f0 := frozen_of_row X1 bb 0 _ _ R0.out
      have f1 := frozen_of_row X1 bb 1 _ _ R0.out
      have f2 := frozen_of_row X1 bb 2 _ _ R0.out
      simp at k0 k1 k2
      have r1 := heap_setCell_same X1 bb 0 _ 95 (.string p.name) R0.out
      have r2 := heap_setCell_same _ bb 1 _ 95 (.string (S p.data)) r1
      have r3 := heap_setCell_same _ bb 2 _ 95 (.int .i64 (p.dur : Int)) r2
      have R3 := Lib.hid r3
      have B3 := Lib.hid (((B0.out.setCell (p := ⟨bb, 0, none⟩) (by show w2.heap.size ≤ bb; omega) (.string p.name)).setCell (p := ⟨bb, 1, none⟩) (by show w2.heap.size ≤ bb; omega) (.string (S p.data))).setCell (p := ⟨bb, 2, none⟩) (by show w2.heap.size ≤ bb; omega) (.int .i64 (p.dur : Int)))
      have HBB := Lib.hid hbb
      clear r1 r2 r3 hbb
      go_wp2_with fail
      have hbb := HBB.out
      clear HBB
      subst hbb
      go_meet
      exact ⟨SR.on S2.out B3.out, by rw [HP.out]; simpa using R3.out, HI2.out, H0.out⟩
  case rest =>
    have D0 := Lib.hid hcut
    clear hcut HC R0 B0 S2 HF HQ HFd HI2 H0 a0 a1 a2 a3 a4 a5 b0 b1 b2 b3 b4
    obtain ⟨b, hb⟩ : ∃ x, x = w2.heap.size := ⟨_, rfl⟩
    rw [← hb] at D0 ⊢
    clear hb
    have HWt := Lib.hid (fun X (hX : FsAt X (.slice a l.length cap) l) f => rwith_any (.slice a l.length cap) l f X hX hl)
    have HWo := Lib.hid (fun X (hX : FsAt X (.slice a l.length cap) l) => rwithout_any (.slice a l.length cap) l nm X hX hl)
    unfold fileV at HWt
    have HD : Hid (doneR l 6 nm dst dat (m : Int) = withP ⟨(fileP nm l).name, (fileP nm l).data.take m, min (fileP nm l).dur m⟩ l) := Lib.hid (by unfold doneR; simp)
    generalize fileP nm l = f at *
    have D1 := Lib.hid (D0.out.put 1 (.string (S (f.data.take m))) ⟨f.name, f.data.take m, f.dur⟩ (by simp))
    have D2 := Lib.hid (D1.out.put 2 (.int .i64 ((min f.dur m : Nat) : Int)) ⟨f.name, f.data.take m, min f.dur m⟩ (by simp))
    have hT := S_take f.data m
    have hsz : (S f.data).size = f.data.length := S_size _
    have hmI : (m : Int) ≤ (f.data.length : Int) := by omega
    have HV : Hid ((if m < f.dur then (m : Int) else (f.dur : Int)) = ((min f.dur m : Nat) : Int)) := Lib.hid (by split <;> omega)
    have k0 := cell_of_row wc b 0 _ _ _ D0.out.row
    have k1 := cell_of_row wc b 1 _ _ _ D0.out.row
    have k2 := cell_of_row wc b 2 _ _ _ D0.out.row
    simp at k0 k1 k2
    obtain ⟨a0, a1, a2, a3, a4, a5, b0, b1, b2, b3, b4, _, _⟩ := D0.out.sr
    have f1 := frozen_of_row wc b 1 _ _ D0.out.row
    go_upto_region 18 with fail
    generalize wc.setCell ⟨b, 1, none⟩ (.string (S (f.data.take m))) = Y1 at D1 D2 ⊢
    clear f1 D0 hT hsz
    clear k0 k1 k2 a0 a1 a2 a3 a4 a5 b0 b1 b2 b3 b4
    have k0 := cell_of_row Y1 b 0 _ _ _ D1.out.row
    have k1 := cell_of_row Y1 b 1 _ _ _ D1.out.row
    have k2 := cell_of_row Y1 b 2 _ _ _ D1.out.row
    simp at k0 k1 k2
    obtain ⟨a0, a1, a2, a3, a4, a5, b0, b1, b2, b3, b4, _, _⟩ := D1.out.sr
    have f2 := frozen_of_row Y1 b 2 _ _ D1.out.row
    go_upto_region 19 with fail
    rw [HV.out]
    generalize Y1.setCell ⟨b, 2, none⟩ (.int .i64 ((min f.dur m : Nat) : Int)) = Y2 at D2 ⊢
    generalize min f.dur m = mn at *
    clear f2 D1 HV
    clear k0 k1 k2 a0 a1 a2 a3 a4 a5 b0 b1 b2 b3 b4
    have k0 := cell_of_row Y2 b 0 _ _ _ D2.out.row
    have k1 := cell_of_row Y2 b 1 _ _ _ D2.out.row
    have k2 := cell_of_row Y2 b 2 _ _ _ D2.out.row
    simp at k0 k1 k2
    obtain ⟨a0, a1, a2, a3, a4, a5, b0, b1, b2, b3, b4, _, _⟩ := D2.out.sr
    go_wp2_with fail
    refine (HWt.out _ D2.out.fsx ⟨f.name, f.data.take m, mn⟩).mono ?_
    rintro e w3 ⟨v3, rfl, hO⟩
    go_wp2_with fail
    go_ret
    exact ⟨_, rfl, by rw [HD.out]; exact hO.under D2.out.below.size D2.out.below⟩

set_option maxRecDepth 100000 in
set_option maxHeartbeats 1000000 in
/-- Rename. -/
theorem rdone_4 (fv : Value) (l : List PF) (q st : Int) (sv : Value) (si : Int) (dn : Bool) (kd : Int) (nm dst dat : ByteArray) (n : Int) (w : World) (h : FsAt w fv l) (hl : l.length ≤ 1000000000) (hk4 : kd = 4) :
    Calls Tryz.prog 49 #[rdV fv q st sv si dn, opV kd nm dst dat n] w fun e w' => ∃ v, e = .returned v ∧ OwnF w.heap.size v (doneR l kd nm dst dat n) w w' := by
  subst hk4
  have S0 := Lib.hid (SR.new w fv l q st sv si dn 4 nm dst dat n h)
  have HFd := Lib.hid (fun X (hX : SR w fv l q st sv si dn 4 nm dst dat n X) => (rfind_any fv l q st sv si dn nm X hX.2.2.2.2.2.2.2.2.2.2.2.1 hl).mono fun e w' ⟨k1, k2⟩ => (⟨k1, SR.on hX k2⟩ : e = Ending.returned (.int .i64 (findP nm l)) ∧ SR w fv l q st sv si dn 4 nm dst dat n w'))
  obtain ⟨a, cap, hv, _⟩ := h.form
  have H0 := Lib.hid h
  subst hv
  have HC := Lib.hid (findP_cases nm l)
  clear h
  have hlI : (l.length : Int) ≤ 1000000000 := by omega
  unfold rdV at HFd ⊢
  unfold opV
  generalize findP nm l = fi at *
  go_enter Tryz.func49, Tryz.ntmps49
  go_upto_region 1 with fail
  generalize ((w.alloc (.cells #[.slice a l.length cap, .int .i64 q, .int .i64 st, sv, .int .i64 si, .bool dn] 32)).alloc (.cells #[.int .i64 4, .string nm, .string dst, .string dat, .int .i64 n] 55)) = W1 at S0 ⊢
  obtain ⟨a0, a1, a2, a3, a4, a5, b0, b1, b2, b3, b4, _, _⟩ := S0.out
  go_wp2_with fail
  refine (HFd.out _ S0.out).mono ?_
  rintro e w2 ⟨rfl, hs2⟩
  have S2 := Lib.hid hs2
  clear hs2 a0 a1 a2 a3 a4 a5 b0 b1 b2 b3 b4 S0
  obtain ⟨a0, a1, a2, a3, a4, a5, b0, b1, b2, b3, b4, hf, hq⟩ := S2.out
  have HF := Lib.hid hf
  have HQ := Lib.hid hq
  have HI2 : Hid (w.heap.size + 2 ≤ w2.heap.size) := Lib.hid (by have h9 : w.heap.size + 1 < w2.heap.size := block_lt_of_cell b0; omega)
  clear hf hq
  have R0 := Lib.hid (heap_alloc_new w2 (.cells #[.string nm, .string ⟨#[]⟩, .int .i64 0] 95))
  have B0 : Hid (Below w2.heap.size w2 (w2.alloc (.cells #[.string nm, .string ⟨#[]⟩, .int .i64 0] 95))) := Lib.hid ((Below.refl _ _).alloc (Nat.le_refl _) _)
  go_upto_if 16 with fail
  go_cut [5] (fun s5 wx => DoneAt w (.slice a l.length cap) l q st sv si dn 4 nm dst dat n w2.heap.size (fileP nm l) wx)
  case first =>
    rcases HC.out with ⟨h1, rfl⟩ | ⟨i, p, h1, rfl, h3, hpn⟩
    · have HP : Hid (fileP nm l = ⟨nm, [], 0⟩) := Lib.hid (by unfold fileP; rw [h1]; rfl)
      clear h1 HC
      go_wp2_with fail
      go_meet
      exact ⟨SR.on S2.out B0.out, by rw [HP.out]; exact R0.out, HI2.out, H0.out⟩
    · have HP : Hid (fileP nm l = p) := Lib.hid (by unfold fileP; rw [h1]; rfl)
      clear hpn
      have hi : i < l.length := (List.getElem?_eq_some_iff.1 h3).1
      have hiI : (i : Int) < (l.length : Int) := by omega
      have HF1 := Lib.hid (HF.out.on B0.out)
      have S1 := Lib.hid (SR.on S2.out B0.out)
      clear a0 a1 a2 a3 a4 a5 b0 b1 b2 b3 b4
      generalize w2.alloc (.cells #[.string nm, .string ⟨#[]⟩, .int .i64 0] 95) = X1 at *
      obtain ⟨a0, a1, a2, a3, a4, a5, b0, b1, b2, b3, b4, _, _⟩ := S1.out
      obtain ⟨g, ha, e1, e2, e3⟩ := HF1.out.get h3
      subst ha
      clear h1 h3 HC
      obtain ⟨bb, hbb⟩ : ∃ x, x = w2.heap.size := ⟨_, rfl⟩
      rw [← hbb] at R0 ⊢
      have k0 := cell_of_row X1 bb 0 _ _ _ R0.out
      have k1 := cell_of_row X1 bb 1 _ _ _ R0.out
      have k2 := cell_of_row X1 bb 2 _ _ _ R0.out
      have f0 := frozen_of_row X1 bb 0 _ _ R0.out
      have f1 := frozen_of_row X1 bb 1 _ _ R0.out
      have f2 := frozen_of_row X1 bb 2 _ _ R0.out
      simp at k0 k1 k2
      have r1 := heap_setCell_same X1 bb 0 _ 95 (.string p.name) R0.out
      have r2 := heap_setCell_same _ bb 1 _ 95 (.string (S p.data)) r1
      have r3 := heap_setCell_same _ bb 2 _ 95 (.int .i64 (p.dur : Int)) r2
      have R3 := Lib.hid r3
      have B3 := Lib.hid (((B0.out.setCell (p := ⟨bb, 0, none⟩) (by show w2.heap.size ≤ bb; omega) (.string p.name)).setCell (p := ⟨bb, 1, none⟩) (by show w2.heap.size ≤ bb; omega) (.string (S p.data))).setCell (p := ⟨bb, 2, none⟩) (by show w2.heap.size ≤ bb; omega) (.int .i64 (p.dur : Int)))
      have HBB := Lib.hid hbb
      clear r1 r2 r3 hbb
      go_wp2_with fail
      have hbb := HBB.out
      clear HBB
      subst hbb
      go_meet
      exact ⟨SR.on S2.out B3.out, by rw [HP.out]; simpa using R3.out, HI2.out, H0.out⟩
  case rest =>
    have D0 := Lib.hid hcut
    clear hcut HC R0 B0 S2 HF HQ HFd HI2 H0 a0 a1 a2 a3 a4 a5 b0 b1 b2 b3 b4
    obtain ⟨b, hb⟩ : ∃ x, x = w2.heap.size := ⟨_, rfl⟩
    rw [← hb] at D0 ⊢
    clear hb
    have HWt := Lib.hid (fun X (hX : FsAt X (.slice a l.length cap) l) f => rwith_any (.slice a l.length cap) l f X hX hl)
    have HWo := Lib.hid (fun X (hX : FsAt X (.slice a l.length cap) l) => rwithout_any (.slice a l.length cap) l nm X hX hl)
    unfold fileV at HWt
    have HD : Hid (doneR l 4 nm dst dat n = withP { fileP nm l with name := dst } (withoutP nm l)) := Lib.hid (by unfold doneR; simp)
    generalize fileP nm l = f at *
    have HLw : Hid ((withoutP nm l).length ≤ 1000000000) := Lib.hid (Nat.le_trans (List.length_filter_le _ _) hl)
    have k0 := cell_of_row wc b 0 _ _ _ D0.out.row
    have k1 := cell_of_row wc b 1 _ _ _ D0.out.row
    have k2 := cell_of_row wc b 2 _ _ _ D0.out.row
    simp at k0 k1 k2
    obtain ⟨a0, a1, a2, a3, a4, a5, b0, b1, b2, b3, b4, _, _⟩ := D0.out.sr
    have hbl : b < wc.heap.size := (Array.getElem?_eq_some_iff.1 D0.out.row).1
    go_wp2_with fail
    refine (HWo.out _ D0.out.fsx).mono ?_
    rintro e w3 ⟨v3, rfl, hO⟩
    have D1 := Lib.hid (D0.out.on hO.below)
    have D2 := Lib.hid (D1.out.put 0 (.string dst) { f with name := dst } (by simp))
    have HF3 := Lib.hid (hO.at_put (.string dst) 0 hbl)
    obtain ⟨av, cv, hv3, _⟩ := HF3.out.form
    clear hO D0 hbl
    subst hv3
    clear k0 k1 k2 a0 a1 a2 a3 a4 a5 b0 b1 b2 b3 b4
    have k0 := cell_of_row w3 b 0 _ _ _ D1.out.row
    have k1 := cell_of_row w3 b 1 _ _ _ D1.out.row
    have k2 := cell_of_row w3 b 2 _ _ _ D1.out.row
    simp at k0 k1 k2
    obtain ⟨a0, a1, a2, a3, a4, a5, b0, b1, b2, b3, b4, _, _⟩ := D1.out.sr
    have f0 := frozen_of_row w3 b 0 _ _ D1.out.row
    go_upto_region 13 with fail
    generalize w3.setCell ⟨b, 0, none⟩ (.string dst) = Y at D2 HF3 ⊢
    clear f0 D1
    clear k0 k1 k2 a0 a1 a2 a3 a4 a5 b0 b1 b2 b3 b4
    have k0 := cell_of_row Y b 0 _ _ _ D2.out.row
    have k1 := cell_of_row Y b 1 _ _ _ D2.out.row
    have k2 := cell_of_row Y b 2 _ _ _ D2.out.row
    simp at k0 k1 k2
    obtain ⟨a0, a1, a2, a3, a4, a5, b0, b1, b2, b3, b4, _, _⟩ := D2.out.sr
    go_wp2_with fail
    refine (rwith_any _ _ { f with name := dst } Y HF3.out HLw.out).mono ?_
    rintro e w4 ⟨v4, rfl, hO4⟩
    go_wp2_with fail
    go_ret
    exact ⟨_, rfl, by rw [HD.out]; exact hO4.under D2.out.below.size D2.out.below⟩
end Go.Proofs.YtgafomknpdnfcaaGreatDoor

/- The document's disk: done as one. -/
namespace Go.Proofs.YtgafomknpdnfcaaGreatDoor
open Go.RowKit

theorem rdone_any (fv : Value) (l : List PF) (q st : Int) (sv : Value) (si : Int) (dn : Bool) (kd : Int) (nm dst dat : ByteArray) (n : Int) (w : World) (h : FsAt w fv l) (hl : l.length ≤ 1000000000) (hd : ∀ p, p ∈ l → p.data.length ≤ 1000000000) (hs3 : dat.size ≤ 140737488355328) (hn : kd = 6 → 0 ≤ n ∧ n ≤ ((fileP nm l).data.length : Int)) :
    Calls Tryz.prog 49 #[rdV fv q st sv si dn, opV kd nm dst dat n] w fun e w' => ∃ v, e = .returned v ∧ OwnF w.heap.size v (doneR l kd nm dst dat n) w w' := by
  by_cases h6 : kd = 6
  · obtain ⟨m, hm⟩ := Int.eq_ofNat_of_zero_le (hn h6).1
    have := (hn h6).2
    exact rdone_6 fv l q st sv si dn kd nm dst dat n w h hl h6 m hm (by omega)
  · by_cases h4 : kd = 4
    · exact rdone_4 fv l q st sv si dn kd nm dst dat n w h hl h4
    · exact rdone_most fv l q st sv si dn kd nm dst dat n w h hl hd hs3 h4 h6
end Go.Proofs.YtgafomknpdnfcaaGreatDoor

/- The document's disk: part. -/
namespace Go.Proofs.YtgafomknpdnfcaaGreatDoor
open Go.RowKit

/-- How much of a text an interrupted Append writes. -/
def cutN (y : Int) (dat : ByteArray) : Nat := (min (max y 0) (dat.size : Int)).toNat
/-- What a stop within an operation leaves of it. -/
def partR (q : Int) (l : List PF) (kd : Int) (nm dst dat : ByteArray) (n y : Int) : List PF :=
  if refR q l kd nm dst dat n != 0 then l else if kd = 1 then doneR l 1 nm dst (dat.extract 0 (cutN y dat)) n else if y < 1 ∨ kd = 3 then l else doneR l kd nm dst dat n
theorem SR.put {w : World} {fv : Value} {l : List PF} {q st : Int} {sv : Value} {si : Int} {dn : Bool} {kd : Int} {nm dst dat : ByteArray} {n : Int} {X : World} (h : SR w fv l q st sv si dn kd nm dst dat n X) (h0 : FsAt w fv l) (r : X.heap[w.heap.size + 1]? = some (.cells #[.int .i64 kd, .string nm, .string dst, .string dat, .int .i64 n] 55 (0, 0))) (dat' : ByteArray) : SR w fv l q st sv si dn kd nm dst dat' n (X.setCell ⟨w.heap.size + 1, 3, none⟩ (.string dat')) := by
  have hb := h.2.2.2.2.2.2.2.2.2.2.2.2.setCell (p := ⟨w.heap.size + 1, 3, none⟩) (by show w.heap.size ≤ w.heap.size + 1; omega) (.string dat')
  obtain ⟨a0, a1, a2, a3, a4, a5, _, _, _, _, _, _, _⟩ := h
  have e0 : (X.setCell ⟨w.heap.size + 1, 3, none⟩ (.string dat')).heap[w.heap.size]? = X.heap[w.heap.size]? := Below.heap_setCell _ _ _ _ (by show w.heap.size ≠ w.heap.size + 1; omega)
  have g0 : ∀ j, (X.setCell ⟨w.heap.size + 1, 3, none⟩ (.string dat')).cell? ⟨w.heap.size, j, none⟩ = X.cell? ⟨w.heap.size, j, none⟩ := fun j => World.cell?_of_block e0
  have r' := heap_setCell_same X (w.heap.size + 1) 3 _ 55 (.string dat') r
  have k0 := cell_of_row _ (w.heap.size + 1) 0 _ _ _ r'
  have k1 := cell_of_row _ (w.heap.size + 1) 1 _ _ _ r'
  have k2 := cell_of_row _ (w.heap.size + 1) 2 _ _ _ r'
  have k3 := cell_of_row _ (w.heap.size + 1) 3 _ _ _ r'
  have k4 := cell_of_row _ (w.heap.size + 1) 4 _ _ _ r'
  simp at k0 k1 k2 k3 k4
  exact ⟨by rw [g0]; exact a0, by rw [g0]; exact a1, by rw [g0]; exact a2, by rw [g0]; exact a3, by rw [g0]; exact a4, by rw [g0]; exact a5, k0, k1, k2, k3, k4, h0.on hb, hb⟩

set_option maxRecDepth 100000 in
set_option maxHeartbeats 1000000 in
theorem rpart_any (fv : Value) (l : List PF) (q st : Int) (sv : Value) (si : Int) (dn : Bool) (kd : Int) (nm dst dat : ByteArray) (n : Int) (y : Int) (w : World) (h : FsAt w fv l) (hl : l.length ≤ 1000000000) (hu : usedP l ≤ 1000000000) (hd : ∀ p, p ∈ l → p.data.length ≤ 1000000000) (hs1 : nm.size ≤ 140737488355328) (hs2 : dst.size ≤ 140737488355328) (hs3 : dat.size ≤ 140737488355328) (hn : refR q l kd nm dst dat n = 0 → kd = 6 → 0 ≤ n ∧ n ≤ ((fileP nm l).data.length : Int)) (hy1 : -9223372036854775808 ≤ y) (hy2 : y ≤ 9223372036854775807) :
    Calls Tryz.prog 46 #[rdV fv q st sv si dn, opV kd nm dst dat n, .int .i64 y] w fun e w' => ∃ v, e = .returned v ∧ FsAt w' v (partR q l kd nm dst dat n y) ∧ Below w.heap.size w w' := by
  have S0 := Lib.hid (SR.new w fv l q st sv si dn kd nm dst dat n h)
  have z0 : (w.alloc (.cells #[fv, .int .i64 q, .int .i64 st, sv, .int .i64 si, .bool dn] 32)).heap.size = w.heap.size + 1 := by simp
  have R0 : Hid (((w.alloc (.cells #[fv, .int .i64 q, .int .i64 st, sv, .int .i64 si, .bool dn] 32)).alloc (.cells #[.int .i64 kd, .string nm, .string dst, .string dat, .int .i64 n] 55)).heap[w.heap.size + 1]? = some (.cells #[.int .i64 kd, .string nm, .string dst, .string dat, .int .i64 n] 55 (0, 0))) := Lib.hid (by rw [← z0]; exact heap_alloc_new _ _)
  clear z0
  have HRf := Lib.hid (fun X (hX : SR w fv l q st sv si dn kd nm dst dat n X) => rrefused_any fv l q st sv si dn kd nm dst dat n X hX.2.2.2.2.2.2.2.2.2.2.2.1 hl hu hd hs1 hs2 hs3)
  have HDn := Lib.hid (fun X (hX : SR w fv l q st sv si dn kd nm dst dat n X) hr => rdone_any fv l q st sv si dn kd nm dst dat n X hX.2.2.2.2.2.2.2.2.2.2.2.1 hl hd hs3 hr)
  have HD1 := Lib.hid (fun X dat' (hX : SR w fv l q st sv si dn 1 nm dst dat' n X) (hz : dat'.size ≤ 140737488355328) => rdone_any fv l q st sv si dn 1 nm dst dat' n X hX.2.2.2.2.2.2.2.2.2.2.2.1 hl hd hz (fun e => by cases e))
  obtain ⟨a, cap, hv, _⟩ := h.form
  have H0 := Lib.hid h
  subst hv
  have HN := Lib.hid hn
  have HP := Lib.hid (show partR q l kd nm dst dat n y = partR q l kd nm dst dat n y from rfl)
  clear h hn hu hd hs1 hs2
  unfold rdV opV at HRf HDn HD1 ⊢
  obtain ⟨pr, hpr⟩ : ∃ x, x = partR q l kd nm dst dat n y := ⟨_, rfl⟩
  rw [← hpr]
  unfold partR at hpr
  have HQR := Lib.hid hpr
  clear hpr HP
  generalize refR q l kd nm dst dat n = rv at *
  go_enter Tryz.func46, Tryz.ntmps46
  go_upto_region 1 with fail
  generalize ((w.alloc (.cells #[.slice a l.length cap, .int .i64 q, .int .i64 st, sv, .int .i64 si, .bool dn] 32)).alloc (.cells #[.int .i64 kd, .string nm, .string dst, .string dat, .int .i64 n] 55)) = W1 at S0 R0 ⊢
  obtain ⟨a0, a1, a2, a3, a4, a5, b0, b1, b2, b3, b4, _, _⟩ := S0.out
  go_wp2_with fail
  refine (HRf.out _ S0.out).mono ?_
  rintro e w2 ⟨rfl, hb2⟩
  have S2 := Lib.hid (SR.on S0.out hb2)
  have R2 : Hid (w2.heap[w.heap.size + 1]? = some (.cells #[.int .i64 kd, .string nm, .string dst, .string dat, .int .i64 n] 55 (0, 0))) := Lib.hid (by rw [hb2.block _ (Array.getElem?_eq_some_iff.1 R0.out).1]; exact R0.out)
  clear hb2 a0 a1 a2 a3 a4 a5 b0 b1 b2 b3 b4 S0 R0 HRf
  obtain ⟨a0, a1, a2, a3, a4, a5, b0, b1, b2, b3, b4, _, _⟩ := S2.out
  by_cases hrv : rv = 0
  · have er : (rv != 0) = false := by rw [hrv]; rfl
    have HN2 := Lib.hid (HN.out hrv)
    by_cases hk1 : kd = 1
    · subst hk1
      have HV : Hid (pr = doneR l 1 nm dst (dat.extract 0 (cutN y dat)) n) := Lib.hid (by rw [HQR.out, er]; rfl)
      have HC : Hid ((y < 0 ∧ cutN y dat = 0) ∨ ((dat.size : Int) < y ∧ cutN y dat = dat.size) ∨ ∃ m : Nat, y = (m : Int) ∧ m ≤ dat.size ∧ cutN y dat = m) := Lib.hid (by
        by_cases y0 : y < 0
        · exact .inl ⟨y0, by unfold cutN; omega⟩
        · by_cases y1 : (dat.size : Int) < y
          · exact .inr (.inl ⟨y1, by unfold cutN; omega⟩)
          · exact .inr (.inr ⟨y.toNat, by omega, by omega, by unfold cutN; omega⟩))
      have S3 := Lib.hid (fun d' => S2.out.put H0.out R2.out d')
      have HZ : Hid (∀ k, (dat.extract 0 k).size ≤ 140737488355328) := Lib.hid (fun k => by rw [ByteArray.size_extract]; omega)
      have f3 := frozen_of_row w2 (w.heap.size + 1) 3 _ _ R2.out
      generalize cutN y dat = cn at *
      clear hrv HQR HN HN2 HDn
      rcases HC.out with ⟨y0, hcn⟩ | ⟨y0, hcn⟩ | ⟨m, hym, hm, hcn⟩
      · clear HC
        subst hcn
        have S4 := Lib.hid (S3.out (ByteArray.empty))
        have HW : Hid (pr = doneR l 1 nm dst (ByteArray.empty) n) := Lib.hid (by rw [HV.out]; rw [show dat.extract 0 0 = ByteArray.empty by simp])
        clear S3 HV
        go_upto_region 6 with fail
        generalize w2.setCell ⟨w.heap.size + 1, 3, none⟩ (.string (ByteArray.empty)) = Y at S4 ⊢
        clear a0 a1 a2 a3 a4 a5 b0 b1 b2 b3 b4 f3 S2 R2
        obtain ⟨a0, a1, a2, a3, a4, a5, b0, b1, b2, b3, b4, _, _⟩ := S4.out
        go_wp2_with fail
        refine (HD1.out _ (ByteArray.empty) S4.out (by decide)).mono ?_
        rintro e w3 ⟨v3, rfl, hO⟩
        go_wp2_with fail
        go_ret
        exact ⟨_, rfl, by rw [HW.out]; exact hO.at, S4.out.2.2.2.2.2.2.2.2.2.2.2.2.trans (hO.below.mono S4.out.2.2.2.2.2.2.2.2.2.2.2.2.size)⟩
      · clear HC
        subst hcn
        have y1 : ¬ y < 0 := by omega
        have S4 := Lib.hid (S3.out (dat))
        have HW : Hid (pr = doneR l 1 nm dst (dat) n) := Lib.hid (by rw [HV.out]; rw [show dat.extract 0 dat.size = dat by simp])
        clear S3 HV
        go_upto_region 6 with fail
        generalize w2.setCell ⟨w.heap.size + 1, 3, none⟩ (.string (dat)) = Y at S4 ⊢
        clear a0 a1 a2 a3 a4 a5 b0 b1 b2 b3 b4 f3 S2 R2
        obtain ⟨a0, a1, a2, a3, a4, a5, b0, b1, b2, b3, b4, _, _⟩ := S4.out
        go_wp2_with fail
        refine (HD1.out _ (dat) S4.out hs3).mono ?_
        rintro e w3 ⟨v3, rfl, hO⟩
        go_wp2_with fail
        go_ret
        exact ⟨_, rfl, by rw [HW.out]; exact hO.at, S4.out.2.2.2.2.2.2.2.2.2.2.2.2.trans (hO.below.mono S4.out.2.2.2.2.2.2.2.2.2.2.2.2.size)⟩
      · clear HC
        subst hcn
        subst hym
        have y1 : ¬ (cn : Int) < 0 := by omega
        have y2 : ¬ (dat.size : Int) < (cn : Int) := by omega
        have S4 := Lib.hid (S3.out (dat.extract 0 cn))
        have HW : Hid (pr = doneR l 1 nm dst (dat.extract 0 cn) n) := Lib.hid (by rw [HV.out])
        clear S3 HV
        go_upto_region 6 with fail
        generalize w2.setCell ⟨w.heap.size + 1, 3, none⟩ (.string (dat.extract 0 cn)) = Y at S4 ⊢
        clear a0 a1 a2 a3 a4 a5 b0 b1 b2 b3 b4 f3 S2 R2
        obtain ⟨a0, a1, a2, a3, a4, a5, b0, b1, b2, b3, b4, _, _⟩ := S4.out
        go_wp2_with fail
        refine (HD1.out _ (dat.extract 0 cn) S4.out (HZ.out cn)).mono ?_
        rintro e w3 ⟨v3, rfl, hO⟩
        go_wp2_with fail
        go_ret
        exact ⟨_, rfl, by rw [HW.out]; exact hO.at, S4.out.2.2.2.2.2.2.2.2.2.2.2.2.trans (hO.below.mono S4.out.2.2.2.2.2.2.2.2.2.2.2.2.size)⟩
    · have n1 : (kd == 1) = false := beq_eq_false_iff_ne.2 hk1
      by_cases hy : y < 1
      · have HV : Hid (pr = l) := Lib.hid (by rw [HQR.out, er]; simp [hk1, hy])
        clear hrv hk1
        go_wp2_with fail
        go_ret
        exact ⟨_, rfl, by rw [HV.out]; exact S2.out.2.2.2.2.2.2.2.2.2.2.2.1, S2.out.2.2.2.2.2.2.2.2.2.2.2.2⟩
      · by_cases hk3 : kd = 3
        · have n3 : (kd == 3) = true := by rw [hk3]; rfl
          have HV : Hid (pr = l) := Lib.hid (by rw [HQR.out, er]; simp [hk3])
          clear hrv hk1
          go_wp2_with fail
          go_ret
          exact ⟨_, rfl, by rw [HV.out]; exact S2.out.2.2.2.2.2.2.2.2.2.2.2.1, S2.out.2.2.2.2.2.2.2.2.2.2.2.2⟩
        · have n3 : (kd == 3) = false := beq_eq_false_iff_ne.2 hk3
          have HV : Hid (pr = doneR l kd nm dst dat n) := Lib.hid (by rw [HQR.out, er]; simp [hk1, hk3, hy])
          clear hrv hk1
          go_wp2_with fail
          refine (HDn.out _ S2.out HN2.out).mono ?_
          rintro e w3 ⟨v3, rfl, hO⟩
          go_wp2_with fail
          go_ret
          exact ⟨_, rfl, by rw [HV.out]; exact hO.at, S2.out.2.2.2.2.2.2.2.2.2.2.2.2.trans (hO.below.mono S2.out.2.2.2.2.2.2.2.2.2.2.2.2.size)⟩
  · have er : (rv != 0) = true := bne_iff_ne.2 hrv
    have HV : Hid (pr = l) := Lib.hid (by rw [HQR.out, er]; rfl)
    clear hrv
    go_wp2_with fail
    go_ret
    exact ⟨_, rfl, by rw [HV.out]; exact S2.out.2.2.2.2.2.2.2.2.2.2.2.1, S2.out.2.2.2.2.2.2.2.2.2.2.2.2⟩
end Go.Proofs.YtgafomknpdnfcaaGreatDoor

/- The document's disk: Start. -/
namespace Go.Proofs.YtgafomknpdnfcaaGreatDoor
open Go.RowKit

theorem Tryz.sizeRD : (Tryz.prog.info? 32).map (·.size) = some 6 := by kernel_rfl
theorem heapR_second (w : World) (a b : Obj) : ((w.alloc a).alloc b).heap[w.heap.size + 1]? = some b := by
  have := heap_alloc_new (w.alloc a) b
  simpa using this
theorem belowR_two (w : World) (a b : Obj) : Below w.heap.size w ((w.alloc a).alloc b) := ((Below.refl _ _).alloc (Nat.le_refl _) _).alloc (by simp) _

set_option maxRecDepth 100000 in
set_option maxHeartbeats 1000000 in
theorem rStart_any (fa : Option Addr) (fl fc : Nat) (q st : Int) (sa : Option Addr) (sl sc : Nat) (si : Int) (dn : Bool) (w : World) :
    Calls Tryz.prog 24 #[rdV (.slice fa fl fc) q st (.slice sa sl sc) si dn] w fun e w' => e = .returned (rdV (.slice fa fl fc) q st (.slice sa sl sc) (if dn then 0 else si) false) ∧ Below w.heap.size w w' := by
  unfold rdV
  cases dn with
  | false =>
    go_enter Tryz.func24, Tryz.ntmps24
    go_wp2
    refine bodyPost_ret (results_cell_row rfl _ _ (w.heap.size + 1) 32 #[.slice fa fl fc, .int .i64 q, .int .i64 st, .slice sa sl sc, .int .i64 si, .bool false] (0, 0) _ rfl (heapR_second w _ _) Tryz.underlying32 rfl Tryz.sizeRD) rfl ?_
    exact ⟨rfl, belowR_two w _ _⟩
  | true =>
    go_enter Tryz.func24, Tryz.ntmps24
    go_wp2
    refine bodyPost_ret (results_cell_row rfl _ _ (w.heap.size + 1) 32 #[.slice fa fl fc, .int .i64 q, .int .i64 st, .slice sa sl sc, .int .i64 0, .bool false] (0, 0) _ rfl (heapR_second w _ _) Tryz.underlying32 rfl Tryz.sizeRD) rfl ?_
    exact ⟨rfl, belowR_two w _ _⟩
end Go.Proofs.YtgafomknpdnfcaaGreatDoor
