/- What the document fixes of all the calls: known. -/
import Derived.Test.YtiphbnmnoofpkaaN16b
namespace Go.Proofs.Ytiphbnmnoofpkaa
open Go.RowKit

def mlC (ms : List MLE) : List Value := ms.flatMap fun m => (mlA m).toList
theorem mlC_at : ∀ (ms : List MLE) (i j : Nat), i < ms.length → j < 13 → (mlC ms)[i * 13 + j]? = (mlA (ms.getD i ML0))[j]?
  | m :: ms, 0, j, _, hj => by
    show ((mlA m).toList ++ mlC ms)[0 * 13 + j]? = (mlA m)[j]?
    rw [Nat.zero_mul, Nat.zero_add, List.getElem?_append_left (by simpa [mlA] using hj)]
    simp
  | m :: ms, i + 1, j, hi, hj => by
    show ((mlA m).toList ++ mlC ms)[(i + 1) * 13 + j]? = (mlA (ms.getD i ML0))[j]?
    rw [List.getElem?_append_right (by simp [mlA]; omega)]
    rw [show (i + 1) * 13 + j - (mlA m).toList.length = i * 13 + j by simp [mlA]; omega]
    exact mlC_at ms i j (by simpa using hi) hj
theorem mails_lit (w : World) (ms : List MLE) (cs : Array Value) (hc : cs.toList = mlC ms) : MailsAt (w.alloc (.cells cs 68)) (.slice (some ⟨w.heap.size, 0, none⟩) ms.length ms.length) ms := by
  refine ⟨_, _, rfl, fun _ => ⟨w.heap.size, 0, rfl, by simp, fun i hi j u hj => ?_⟩⟩
  have hn : (w.alloc (.cells cs 68)).heap[w.heap.size]? = some (.cells cs 68 (0, 0)) := heap_new _ _
  have hj13 : j < 13 := (Array.getElem?_eq_some_iff.1 hj).1
  rw [Nat.zero_add, cell_of hn, ← hj, ← mlC_at ms i j hi hj13, ← hc]
  simp
def mU (u : Int) : MLE := { ML0 with u := u }
def V0 : PV := newP 7 [2, 5, 9] 9
def e0 (b : Nat) : EV := ⟨0, 7, 7, 0, 0, ⟨#[]⟩, .slice none 0 0, .slice none 0 0, .slice (some ⟨b, 0, none⟩) 1 1, .slice none 0 0, 0, 0, 0, 0, 0, 0, 0, ⟨#[]⟩⟩
def V1 : PV := hearP V0 ⟨0, 7, 7, 0, 0, [5], []⟩ false
def V2 : PV := takeV V1 2 0
theorem known_find : findL V1 [(1, 3)] false = [2, 5, 9] ∧ findG V1 [(1, 3)] false = true ∧ findE V1 [(1, 3)] false = 0 := by decide +kernel
theorem known_seq : seqI (uidsP V1) 9 = 3 ∧ seqE (uidsP V1) 9 = 0 := by decide +kernel
theorem known_take : takeT V1 2 0 = [⟨1, 2, 5, 0, []⟩] := by kernel_rfl
theorem known_uids : uidsP V2 = [2, 9] := by decide +kernel
theorem known_flags : (atP V2 9).rct = true ∧ (atP V2 9).gone = false := by decide +kernel
theorem V0_ok : PVok V0 3 := newP_ok 7 [2, 5, 9] 9
theorem V1_ok : PVok V1 5 := hearP_ok V0_ok _ _
theorem V2_ok : PVok V2 5 := takeV_ok V1_ok 2 0
end Go.Proofs.Ytiphbnmnoofpkaa

/- known, its walk. -/
namespace Go.Proofs.Ytiphbnmnoofpkaa
open Go.RowKit

/-- A view that was made since w. -/
def WK (w : World) (P : Nat) (V : PV) (X : World) : Prop := ∃ fp, VW P V fp X ∧ Below w.heap.size w X ∧ ∀ b ∈ fp, w.heap.size ≤ b
/-- And a list of numbers beside it. -/
def WKL (w : World) (P : Nat) (V : PV) (lv : Value) (L : List Int) (X : World) : Prop := ∃ fp, VW P V fp X ∧ Below w.heap.size w X ∧ (∀ b ∈ fp, w.heap.size ≤ b) ∧ Nms X lv L ∧ ∀ b, lv.ownBlock = some b → b ∉ fp
theorem WK.on {w X Y : World} {P : Nat} {V : PV} (h : WK w P V X) (hb : Below X.heap.size X Y) : WK w P V Y := by
  obtain ⟨fp, h1, h2, h3⟩ := h
  exact ⟨fp, h1.on hb, h2.trans (hb.mono h2.size), h3⟩
theorem WKL.on {w X Y : World} {P : Nat} {V : PV} {lv : Value} {L : List Int} (h : WKL w P V lv L X) (hb : Below X.heap.size X Y) : WKL w P V lv L Y := by
  obtain ⟨fp, h1, h2, h3, h4, h5⟩ := h
  exact ⟨fp, h1.on hb, h2.trans (hb.mono h2.size), h3, h4.on hb, h5⟩
theorem WKL.wk {w X : World} {P : Nat} {V : PV} {lv : Value} {L : List Int} (h : WKL w P V lv L X) : WK w P V X := by
  obtain ⟨fp, h1, h2, h3, h4, h5⟩ := h
  exact ⟨fp, h1, h2, h3⟩
theorem fo_below {w X Y : World} {fp fp' : List Nat} (hb : Below w.heap.size w X) (hf : ∀ b ∈ fp, w.heap.size ≤ b) (h : FO fp fp' X Y) : Below w.heap.size w Y ∧ ∀ b ∈ fp', w.heap.size ≤ b :=
  ⟨hb.trans (Stays.below h.1 hf hb.size), fun b hb' => by
    rcases h.2 b hb' with e | e
    · exact hf b e
    · have := hb.size; omega⟩
theorem rgs_one (W : World) (a b : Int) : Rgs (W.alloc (.cells #[.int .i64 a, .int .i64 b] 53)) (.slice (some ⟨W.heap.size, 0, none⟩) 1 1) [(a, b)] := by
  have hn : (W.alloc (.cells #[.int .i64 a, .int .i64 b] 53)).heap[W.heap.size]? = some (.cells #[.int .i64 a, .int .i64 b] 53 (0, 0)) := heap_new _ _
  refine .inr ⟨W.heap.size, 0, 1, rfl, by simp, by simp, fun i hi => ?_⟩
  have : i = 0 := by simpa using hi
  subst this
  exact ⟨cell_of hn 0, cell_of hn 1⟩
theorem nms_lit (W : World) (l : List Int) (cs : Array Value) (hc : cs.toList = ic l) : Nms (W.alloc (.cells cs 3)) (.slice (some ⟨W.heap.size, 0, none⟩) l.length l.length) l := by
  have hn : (W.alloc (.cells cs 3)).heap[W.heap.size]? = some (.cells cs 3 (0, 0)) := heap_new _ _
  refine ⟨_, _, rfl, fun _ => ⟨W.heap.size, 0, rfl, by simp, fun i hi => ?_⟩⟩
  rw [Nat.zero_add, cell_of hn, ← Array.getElem?_toList, hc, ic_at l i hi]
set_option maxHeartbeats 2000000 in
set_option maxRecDepth 20000 in
theorem known_any (w : World) : Calls Try.prog 13 #[] w fun e w' => e = .returned (.bool true) ∧ Below w.heap.size w w' := by
  have HNew : Hid (Calls Try.prog 9 #[.agg #[.string ⟨#[]⟩, .int .i64 7, .int .i64 0, .int .i64 0, .int .i64 0, .int .i64 0, .slice none 0 0, .bool false], .slice (some ⟨w.heap.size, 0, none⟩) 3 3, .int .i64 9] (w.alloc (.cells (mlC [mU 2, mU 5, mU 9]).toArray 68)) fun e w' => ∃ P, e = .returned (.pointer (some ⟨P, 0, none⟩)) ∧ WK w P V0 w') := Lib.hid (by
    have hb : Below w.heap.size w (w.alloc (.cells (mlC [mU 2, mU 5, mU 9]).toArray 68)) := (Below.refl _ _).alloc (Nat.le_refl _) _
    refine (New_any ⟨⟨#[]⟩, 7, 0, 0, 0, 0, .slice none 0 0, false⟩ _ [mU 2, mU 5, mU 9] 9 _ (mails_lit w [mU 2, mU 5, mU 9] _ (by simp)) (by simp)).mono ?_
    rintro e w' ⟨P, fp, rfl, h1, h2, h3⟩
    exact ⟨P, rfl, fp, h1, hb.trans (h2.mono hb.size), fun b hb' => Nat.le_trans hb.size (h3 b hb')⟩)
  have HHear : Hid (∀ P X, WK w P V0 X → Calls Try.prog 19 #[.pointer (some ⟨P, 0, none⟩), .agg #[.int .i64 0, .int .i64 7, .int .i64 7, .int .i64 0, .int .i64 0, .string ⟨#[]⟩, .slice none 0 0, .slice none 0 0, .slice (some ⟨X.heap.size, 0, none⟩) 1 1, .slice none 0 0, .int .i64 0, .int .i64 0, .int .i64 0, .int .i64 0, .int .i64 0, .int .i64 0, .int .i64 0, .string ⟨#[]⟩], .bool false] (X.alloc (.cells #[.int .i64 5] 3)) fun e w' => e = .returned (.tuple #[]) ∧ WK w P V1 w') := Lib.hid (fun P X ⟨fp, h1, h2, h3⟩ => by
    have hb : Below X.heap.size X (X.alloc (.cells #[.int .i64 5] 3)) := (Below.refl _ _).alloc (Nat.le_refl _) _
    refine (Hear_any (h1.on hb) V0_ok (e0 X.heap.size) false [5] [] (by simp) ⟨nms_one X 5, ⟨⟨none, 0, rfl, fun h => by simp at h⟩, fun m hm => by cases hm⟩, by show (-9223372036854775808 : Int) ≤ 0; omega, by simp, by simp⟩ ⟨fun _ b hb' => ?_, fun _ b hb' => ?_, fun m hm => by cases hm⟩).mono ?_
    · have e : X.heap.size = b := by simpa [e0, Value.ownBlock] using hb'
      subst e
      exact ⟨by simp, fun hm => by have := h1.lt hm; omega⟩
    · simp [e0, Value.ownBlock] at hb'
    · rintro e w' ⟨rfl, fp', q1, q2⟩
      obtain ⟨y1, y2⟩ := fo_below (h2.trans (hb.mono h2.size)) h3 q2
      exact ⟨rfl, fp', q1, y1, y2⟩)
  have HFind : Hid (∀ P X, WK w P V1 X → Calls Try.prog 15 #[.pointer (some ⟨P, 0, none⟩), .slice (some ⟨X.heap.size, 0, none⟩) 1 1, .bool false] (X.alloc (.cells #[.int .i64 1, .int .i64 3] 53)) fun e w' => ∃ a n c, e = .returned (.tuple #[.slice a n c, .bool true, .int .i64 0]) ∧ WKL w P V1 (.slice a n c) [2, 5, 9] w') := Lib.hid (fun P X ⟨fp, h1, h2, h3⟩ => by
    have hb : Below X.heap.size X (X.alloc (.cells #[.int .i64 1, .int .i64 3] 53)) := (Below.refl _ _).alloc (Nat.le_refl _) _
    refine (Find_any (h1.on hb) V1_ok (by omega) _ [(1, 3)] (rgs_one X 1 3) (by simp) false).mono ?_
    obtain ⟨k1, k2, k3⟩ := known_find
    rw [k1, k2, k3]
    rintro e w' ⟨v', rfl, ho⟩
    obtain ⟨a, c, rfl⟩ := ownsRow_shape ho.row
    refine ⟨a, _, c, rfl, fp, (h1.on hb).on ho.below, (h2.trans (hb.mono h2.size)).trans (ho.below.mono (Nat.le_trans h2.size hb.size)), h3, nms_of ho.row, fun b hb' hm => ?_⟩
    have := (ho.row.lt b hb').1
    have := (h1.on hb).lt hm
    omega)
  have HSeq : Hid (∀ P X lv, WKL w P V1 lv [2, 5, 9] X → Calls Try.prog 14 #[.pointer (some ⟨P, 0, none⟩), .int .i64 9] X fun e w' => e = .returned (.tuple #[.int .i64 3, .int .i64 0]) ∧ WKL w P V1 lv [2, 5, 9] w') := Lib.hid (fun P X lv h => by
    obtain ⟨fp, h1, h2, h3⟩ := h.wk
    have := Seq_W h1 V1_ok (by omega) 9
    rw [known_seq.1, known_seq.2] at this
    exact this.mono (fun e w' ⟨q1, q2⟩ => ⟨q1, h.on q2⟩))
  have HTake : Hid (∀ P X lv, WKL w P V1 lv [2, 5, 9] X → Calls Try.prog 17 #[.pointer (some ⟨P, 0, none⟩), .int .i64 2, .int .i64 0] X fun e w' => ∃ g c, e = .returned (.slice (some ⟨g, 0, none⟩) 1 c) ∧ w'.cell? ⟨g, 0, none⟩ = some (.int .i64 1) ∧ w'.cell? ⟨g, 1, none⟩ = some (.int .i64 2) ∧ g < w'.heap.size ∧ WKL w P V2 lv [2, 5, 9] w') := Lib.hid (fun P X lv ⟨fp, h1, h2, h3, h4, h5⟩ => by
    refine (Take_any h1 V1_ok (by omega) 2 0).mono ?_
    rintro e w' ⟨tv, T, rfl, ht, fp', q1, q2⟩
    have hT := ht.pl
    rw [known_take] at hT
    obtain ⟨t, rfl⟩ : ∃ t, T = [t] := List.length_eq_one_iff.1 (by have := congrArg List.length hT; simpa using this)
    have hk : t.kind = 1 := congrArg (fun l => (l.map Td.kind).getD 0 0) hT
    have hn : t.num = 2 := congrArg (fun l => (l.map Td.num).getD 0 0) hT
    have hrow := ht.row
    rcases hrow.2 with ⟨_, h0⟩ | ⟨g, cap, cur, rfl, _, hg, _⟩
    · simp at h0
    · have z0 : w'.cell? ⟨g, 0, none⟩ = some (.int .i64 t.kind) := hrow.cellAt 0 (by simp)
      have z1 : w'.cell? ⟨g, 1, none⟩ = some (.int .i64 t.num) := hrow.cellAt 1 (by simp)
      rw [hk] at z0
      rw [hn] at z1
      obtain ⟨y1, y2⟩ := fo_below h2 h3 q2
      refine ⟨g, cap, rfl, z0, z1, lt_of_heap hg, fp', q1, y1, y2, h4.past q2 (fun _ => h5), fun b hb' hm => ?_⟩
      rcases q2.2 b hm with e | e
      · exact h5 b hb' e
      · obtain ⟨a9, c9, he9, hx9⟩ := h4
        obtain ⟨g9, o9, e9, hl9, _⟩ := hx9 (by simp)
        subst he9 e9
        simp [Value.ownBlock] at hb'
        omega)
  have HAl1 : Hid (∀ P X lv, WKL w P V2 lv [2, 5, 9] X → Calls Try.prog 12 #[lv, .slice (some ⟨X.heap.size, 0, none⟩) 3 3] (X.alloc (.cells #[.int .i64 2, .int .i64 5, .int .i64 9] 3)) fun e w' => e = .returned (.bool true) ∧ Below X.heap.size X w' ∧ WK w P V2 w') := Lib.hid (fun P X lv h => by
    have hb : Below X.heap.size X (X.alloc (.cells #[.int .i64 2, .int .i64 5, .int .i64 9] 3)) := (Below.refl _ _).alloc (Nat.le_refl _) _
    obtain ⟨fp, h1, h2, h3, h4, h5⟩ := h.on hb
    exact (alike_any lv _ [2, 5, 9] [2, 5, 9] _ h4 (nms_lit X [2, 5, 9] _ rfl) (by simp)).mono (fun e w' ⟨q1, q2⟩ => ⟨q1, hb.trans (q2.mono hb.size), (h.wk.on hb).on q2⟩))
  have HUi : Hid (∀ P X, WK w P V2 X → Calls Try.prog 10 #[.pointer (some ⟨P, 0, none⟩)] X fun e w' => ∃ v', e = .returned v' ∧ WK w P V2 w' ∧ Nms w' v' [2, 9]) := Lib.hid (fun P X ⟨fp, h1, h2, h3⟩ => by
    refine (Uids_W h1 V2_ok (by omega)).mono ?_
    rw [known_uids]
    rintro e w' ⟨v', rfl, ho⟩
    exact ⟨v', rfl, ⟨fp, h1.on ho.below, h2.trans (ho.below.mono h2.size), h3⟩, nms_of ho.row⟩)
  have HAl2 : Hid (∀ P X v', WK w P V2 X → Nms X v' [2, 9] → Calls Try.prog 12 #[v', .slice (some ⟨X.heap.size, 0, none⟩) 2 2] (X.alloc (.cells #[.int .i64 2, .int .i64 9] 3)) fun e w' => e = .returned (.bool true) ∧ WK w P V2 w') := Lib.hid (fun P X v' h hn => by
    have hb : Below X.heap.size X (X.alloc (.cells #[.int .i64 2, .int .i64 9] 3)) := (Below.refl _ _).alloc (Nat.le_refl _) _
    exact (alike_any v' _ [2, 9] [2, 9] _ (hn.on hb) (nms_lit X [2, 9] _ rfl) (by simp)).mono (fun e w' ⟨q1, q2⟩ => ⟨q1, (h.on hb).on q2⟩))
  have HRe : Hid (∀ P X, WK w P V2 X → Calls Try.prog 28 #[.pointer (some ⟨P, 0, none⟩), .int .i64 9] X fun e w' => e = .returned (.bool true) ∧ WK w P V2 w') := Lib.hid (fun P X h => by
    obtain ⟨fp, h1, h2, h3⟩ := h
    have := Recent_W h1 V2_ok (by omega) 9
    rw [known_flags.1] at this
    exact this.mono (fun e w' ⟨q1, q2⟩ => ⟨q1, WK.on ⟨fp, h1, h2, h3⟩ q2⟩))
  have HGo : Hid (∀ P X, WK w P V2 X → Calls Try.prog 18 #[.pointer (some ⟨P, 0, none⟩), .int .i64 9] X fun e w' => e = .returned (.bool false) ∧ Below w.heap.size w w') := Lib.hid (fun P X h => by
    obtain ⟨fp, h1, h2, h3⟩ := h
    have := Gone_W h1 V2_ok (by omega) 9
    rw [known_flags.2] at this
    exact this.mono (fun e w' ⟨q1, q2⟩ => ⟨q1, h2.trans (q2.mono h2.size)⟩))
  go_enter Try.func13, Try.ntmps13
  go_wp2_with (first | (go_at_call 9; refine HNew.out.mono ?_; rintro e w1 ⟨P, rfl, h⟩; have K1 := Lib.hid h; clear h) | (go_at_call 19; refine (HHear.out _ _ K1.out).mono ?_; rintro e w2 ⟨rfl, h⟩; have K2 := Lib.hid h; clear h) | (go_at_call 15; refine (HFind.out _ _ K2.out).mono ?_; rintro e w3 ⟨la, ln, lc, rfl, h⟩; have K3 := Lib.hid h; clear h) | (go_at_call 14; refine (HSeq.out _ _ _ K3.out).mono ?_; rintro e w4 ⟨rfl, h⟩; have K4 := Lib.hid h; clear h) | (go_at_call 17; refine (HTake.out _ _ _ K4.out).mono ?_; rintro e w5 ⟨tg, tc, rfl, x0, x1, xg, h⟩; have K5 := Lib.hid h; clear h) | (go_at_call 27; refine (num_any _ _).mono ?_; rintro e w' ⟨rfl, hw⟩; subst w') | (go_at_call 12; have hq := K7; clear hq; refine (HAl2.out _ _ _ K7.out N7.out).mono ?_; rintro e w8 ⟨rfl, h⟩; have K8 := Lib.hid h; clear h) | (go_at_call 12; refine (HAl1.out _ _ _ K5.out).mono ?_; rintro e w6 ⟨rfl, hb, h⟩; rw [← hb.cell (p := ⟨tg, 0, none⟩) xg] at x0; rw [← hb.cell (p := ⟨tg, 1, none⟩) xg] at x1; have K6 := Lib.hid h; clear h hb) | (go_at_call 10; refine (HUi.out _ _ K6.out).mono ?_; rintro e w7 ⟨v7, rfl, h, hn⟩; have K7 := Lib.hid h; have N7 := Lib.hid hn; clear h hn) | (go_at_call 28; refine (HRe.out _ _ K8.out).mono ?_; rintro e w9 ⟨rfl, h⟩; have K9 := Lib.hid h; clear h) | (go_at_call 18; refine (HGo.out _ _ K9.out).mono ?_; rintro e w10 ⟨rfl, h⟩; have K10 := Lib.hid h; clear h))
  go_ret
  exact ⟨rfl, K10.out⟩
end Go.Proofs.Ytiphbnmnoofpkaa
