/- told; the document's Seq, Gone, Recent by what is plain. -/
import Derived.Test.YtflkhnmggmfhfaaGreatR16r
import Derived.Test.YtflkhnmggmfhfaaGreatN16e
import Derived.BigQuiet
namespace Go.Proofs.YtflkhnmggmfhfaaGreat
open Go.RowKit

theorem row_len {w : World} {B n z : Nat} {e : TypeId} {v : Value} {xs : List Value} (h : w.ownsRow B e z v n xs) : n ≤ 9223372036854775807 := by
  rcases h.2 with ⟨_, h0⟩ | ⟨g, cap, cur, _, hB, hg, h1, h2, _⟩
  · omega
  · unfold maxLen at h2; omega
set_option maxRecDepth 100000 in
set_option maxHeartbeats 1000000 in
theorem wordsL_dr (a b : Value) (l : List ByteArray) (w : World) (h1 : Txs w a l) (h2 : Txs w b l) (hl : l.length ≤ 9223372036854775807) :
    Calls Tryz.prog 50 #[a, b] w fun e w' => e = .returned (.bool true) ∧ ∃ m, w' = w.drewN m := by
  obtain ⟨a1, c1, rfl, q1⟩ := h1
  obtain ⟨a2, c2, rfl, q2⟩ := h2
  have H1 := Lib.hid q1
  have H2 := Lib.hid q2
  have hne : ((l.length : Int) != (l.length : Int)) = false := by simp
  clear q1 q2
  go_enter Tryz.func50, Tryz.ntmps50
  go_wp2_with fail
  go_loopw [5] (fun i wr => ∃ k : Nat, k ≤ l.length ∧ i = .int .i64 k ∧ (∃ m, wr = w.drewN m)) (fun i _ => l.length - (intOf i).toNat)
  case atStart => exact ⟨0, Nat.zero_le _, rfl, ⟨0, rfl⟩⟩
  case round =>
    obtain ⟨k, hk, rfl, ⟨dm, hdm⟩⟩ := hrel
    have hb : Below w.heap.size w wr := by rw [hdm]; exact below_drewN (Below.refl _ _) dm
    by_cases hlt : k < l.length
    · have hlti : (k : Int) < (l.length : Int) := by omega
      obtain ⟨g1, o1, rfl, hg1, hc1⟩ := H1.out (by omega)
      obtain ⟨g2, o2, rfl, hg2, hc2⟩ := H2.out (by omega)
      have k1 := hc1 k hlt
      have k2 := hc2 k hlt
      rw [← hb.cell (p := ⟨g1, o1 + k, none⟩) hg1] at k1
      rw [← hb.cell (p := ⟨g2, o2 + k, none⟩) hg2] at k2
      have HBd : Hid (∃ m, wr.drew = w.drewN m) := Lib.hid ⟨dm + 1, by rw [hdm]; exact drewN_succ w dm⟩
      clear hc1 hc2 hb hdm
      generalize l.getD k ByteArray.empty = x at *
      have hq : (x.toList == x.toList) = true := by simp
      go_upto_region 6 with fail
      go_region
      go_wp2_with fail
      go_roundw
      case rel => exact ⟨k + 1, by omega, by go_num, HBd.out⟩
      case measure => simp [intOf]; omega
    · obtain rfl : k = l.length := by omega
      have HB : Hid (∃ m, wr = w.drewN m) := Lib.hid ⟨dm, hdm⟩
      clear hb hdm
      go_wp2_with fail
      go_ret
      exact ⟨rfl, HB.out⟩
theorem tdR_at : ∀ (T : List TDE) (k i : Nat) (x : TDE), T[k]? = some x → i < 5 → (tdC T)[k * 5 + i]? = (x.enc)[i]?
  | [], k, i, x, h, _ => by simp at h
  | t :: T, 0, i, x, h, hi => by
    simp at h
    subst h
    show (t.enc ++ tdC T)[0 * 5 + i]? = _
    rw [Nat.zero_mul, Nat.zero_add, List.getElem?_append_left (by simp [TDE.enc]; omega)]
  | t :: T, k + 1, i, x, h, hi => by
    show (t.enc ++ tdC T)[(k + 1) * 5 + i]? = _
    rw [List.getElem?_append_right (by simp [TDE.enc]; omega), show (k + 1) * 5 + i - t.enc.length = k * 5 + i by simp [TDE.enc]; omega]
    exact tdR_at T k i x (by simpa using h) hi
/-- One thing that is told, cell by cell. -/
theorem Told.at {w : World} {tv : Value} {T : List TDE} {l : List Td} (h : Told w tv T l) {k : Nat} (hk : k < l.length) : ∃ (g c : Nat) (fa : Option Addr) (fc : Nat), tv = .slice (some ⟨g, 0, none⟩) l.length c ∧ w.cell? ⟨g, k * 5, none⟩ = some (.int .i64 (l.getD k ⟨0, 0, 0, 0, []⟩).kind) ∧ w.cell? ⟨g, k * 5 + 1, none⟩ = some (.int .i64 (l.getD k ⟨0, 0, 0, 0, []⟩).num) ∧ w.cell? ⟨g, k * 5 + 2, none⟩ = some (.int .i64 (l.getD k ⟨0, 0, 0, 0, []⟩).uid) ∧ w.cell? ⟨g, k * 5 + 3, none⟩ = some (.int .i64 (l.getD k ⟨0, 0, 0, 0, []⟩).mod) ∧ w.cell? ⟨g, k * 5 + 4, none⟩ = some (.slice fa (l.getD k ⟨0, 0, 0, 0, []⟩).fl.length fc) ∧ Txs w (.slice fa (l.getD k ⟨0, 0, 0, 0, []⟩).fl.length fc) (l.getD k ⟨0, 0, 0, 0, []⟩).fl ∧ (l.getD k ⟨0, 0, 0, 0, []⟩).fl.length ≤ 9223372036854775807 := by
  have hl : T.length = l.length := by rw [← h.pl, List.length_map]
  have hrow := h.row
  unfold TdRow at hrow
  obtain ⟨x, hx⟩ : ∃ x, T[k]? = some x := ⟨T[k]'(by omega), List.getElem?_eq_getElem (by omega)⟩
  have ex : l.getD k ⟨0, 0, 0, 0, []⟩ = x.pl := by
    rw [← h.pl, List.getD_eq_getElem?_getD, List.getElem?_map, hx]
    rfl
  rcases hrow.2 with ⟨rfl, h0⟩ | ⟨g, cap, cur, rfl, hB, hg, _⟩
  · omega
  · have hc : ∀ i, i < 5 → w.cell? ⟨g, k * 5 + i, none⟩ = (x.enc)[i]? := fun i hi => by
      rw [← tdR_at T k i x hx hi]
      exact hrow.cellAt (k * 5 + i) (by omega)
    have hf := h.fls x (List.mem_of_getElem? hx)
    obtain ⟨fa, fc, ef⟩ := ownsRow_shape hf
    have e4 := hc 4 (by omega)
    rw [ex]
    refine ⟨g, cap, fa, fc, by rw [hl], hc 0 (by omega), hc 1 (by omega), hc 2 (by omega), hc 3 (by omega), ?_, ?_, row_len hf⟩
    · rw [show x.pl.fl = x.fl from rfl, ← ef]
      exact e4
    · rw [show x.pl.fl = x.fl from rfl, ← ef]
      exact txs_of hf
theorem Told.len {w : World} {tv : Value} {T : List TDE} {l : List Td} (h : Told w tv T l) : l.length ≤ 9223372036854775807 ∧ ∃ a c, tv = .slice a l.length c := by
  have hl : T.length = l.length := by rw [← h.pl, List.length_map]
  have hrow := h.row
  unfold TdRow at hrow
  obtain ⟨a, c, e⟩ := ownsRow_shape hrow
  rw [hl] at e hrow
  exact ⟨row_len hrow, a, c, e⟩
theorem Told.on {w w' : World} {tv : Value} {T : List TDE} {l : List Td} (h : Told w tv T l) (hb : Below w.heap.size w w') : Told w' tv T l :=
  ⟨ownsRow_same h.row (fun b e => hb.block b (h.row.lt b e).2), h.fls.on hb, h.pl⟩
set_option maxRecDepth 100000 in
set_option maxHeartbeats 4000000 in
theorem told_any (a b : Value) (Ta Tb : List TDE) (l : List Td) (w : World) (ha : Told w a Ta l) (hb : Told w b Tb l) :
    Calls Tryz.prog 17 #[a, b] w fun e w' => e = .returned (.bool true) ∧ ∃ m, w' = w.drewN m := by
  have HA := Lib.hid ha
  have HB := Lib.hid hb
  obtain ⟨hl, a1, c1, ea⟩ := ha.len
  obtain ⟨_, a2, c2, eb⟩ := hb.len
  subst ea eb
  have hne : ((l.length : Int) != (l.length : Int)) = false := by simp
  clear ha hb
  go_enter Tryz.func17, Tryz.ntmps17
  go_wp2_with fail
  go_loopw [5] (fun i wr => ∃ (k : Nat) (X : World), X = wr ∧ k ≤ l.length ∧ i = .int .i64 k ∧ (∃ m, X = w.drewN m)) (fun i _ => l.length - (intOf i).toNat)
  case atStart => exact ⟨0, _, rfl, Nat.zero_le _, rfl, ⟨0, rfl⟩⟩
  case round =>
    obtain ⟨k, X, hX, hk, rfl, ⟨dm, hdm⟩⟩ := hrel
    subst hX
    have hbX : Below w.heap.size w X := by rw [hdm]; exact below_drewN (Below.refl _ _) dm
    by_cases hlt : k < l.length
    · have hlti : (k : Int) < (l.length : Int) := by omega
      obtain ⟨g1, k1, fa1, fc1, e1, x0, x1, x2, x3, x4, x5, x6⟩ := (HA.out.on hbX).at hlt
      obtain ⟨g2, k2, fa2, fc2, e2, y0, y1, y2, y3, y4, y5, _⟩ := (HB.out.on hbX).at hlt
      injection e1 with p1 _ _
      injection e2 with p2 _ _
      subst p1 p2
      generalize (l.getD k ⟨0, 0, 0, 0, []⟩).kind = tk at *
      generalize (l.getD k ⟨0, 0, 0, 0, []⟩).num = tn at *
      generalize (l.getD k ⟨0, 0, 0, 0, []⟩).uid = tu at *
      generalize (l.getD k ⟨0, 0, 0, 0, []⟩).mod = tm at *
      generalize (l.getD k ⟨0, 0, 0, 0, []⟩).fl = tf at *
      have HWd : Hid (∀ n, Calls Tryz.prog 50 #[.slice fa1 tf.length fc1, .slice fa2 tf.length fc2] (X.drewN n) (fun e w' => e = .returned (.bool true) ∧ ∃ m, w' = (X.drewN n).drewN m)) := Lib.hid (fun n => wordsL_dr _ _ tf _ (x5.on (below_drewN (Below.refl _ _) n)) (y5.on (below_drewN (Below.refl _ _) n)) x6)
      have q0 : (tk != tk) = false := by simp
      have q1 : (tn != tn) = false := by simp
      have q2 : (tu != tu) = false := by simp
      have q3 : (tm != tm) = false := by simp
      have HDm := Lib.hid hdm
      clear hdm hbX x5 y5 x6
      generalize tf.length = nf at *
      go_upto_region 6 with fail
      go_quiet ((go_at_call 50; exact Calls.quiet_of (HWd.out _)))
      go_wp2_with fail
      go_roundw
      case rel => exact ⟨k + 1, _, rfl, by omega, by go_num, ⟨_, by rw [HDm.out, World.drewN_drewN]⟩⟩
      case measure => simp [intOf]; omega
    · obtain rfl : k = l.length := by omega
      have HB2 : Hid (∃ m, X = w.drewN m) := Lib.hid ⟨dm, hdm⟩
      clear hbX hdm
      go_wp2_with fail
      go_ret
      exact ⟨rfl, HB2.out⟩
theorem fx_ix {U : List Int} {m : Int} (h : riseF m U) (u : Int) : fxI U u = if hitP U u = true then (ixP U u : Int) else -1 := by
  rcases fx_cases U u with ⟨h1, h2⟩ | ⟨k, h1, h2, h3⟩
  · rw [h1, if_neg (fun q => h2 (hitP_mem q))]
  · have hm : u ∈ U := by rw [← h3]; exact getD_mem0 h1
    rw [h2, if_pos ((hitP_iff h).2 hm)]
    have := ixP_at h h1
    rw [h3] at this
    rw [this]
section
variable {P : Nat} {V : PV} {fp : List Nat} {w : World} {N : Nat}
theorem Seq_RW {nn : Bool} (h : RWm nn P V fp w) (hk : PVok V N) (hN : N ≤ 1000000) (u : Int) :
    Calls Tryz.prog 24 #[.pointer (some ⟨P, 0, none⟩), .int .i64 u] w fun e w' => e = .returned (.tuple #[.int .i64 (seqI (uidsP V) u), .int .i64 (seqE (uidsP V) u)]) ∧ w' = w := by
  obtain ⟨rv, cv, R, h1, h2, rfl, h4⟩ := h
  have hl := hk.len
  have hrl := rlen_pl h2
  refine (rSeq_any h1 u (by omega)).mono ?_
  rintro e w' ⟨rfl, rfl⟩
  refine ⟨?_, rfl⟩
  rw [ruid_pl h2, fx_ix (riseP hk) u]
  unfold seqI seqE seqZ seqX
  by_cases hh : hitP (uidsP V) u = true
  · rw [if_pos hh, if_pos hh, if_pos hh, if_neg (by omega), if_neg (by omega)]
  · rw [if_neg hh, if_neg hh, if_neg hh]
    rfl
theorem at_fx {R : List RR} (h2 : R.map RR.pl = V.rows) (hk : PVok V N) (u : Int) : goneZ R (fxI (rrU R) u) = (atP V u).gone ∧ rctZ R (fxI (rrU R) u) = (atP V u).rct := by
  rw [ruid_pl h2, fx_ix (riseP hk) u]
  unfold goneZ rctZ atP
  by_cases hh : hitP (uidsP V) u = true
  · have hi := (ixP_mem (riseP hk) (hitP_mem hh)).1
    rw [uidsP_length] at hi
    rw [if_pos hh, if_pos hh, if_neg (by omega), if_neg (by omega), show ((ixP (uidsP V) u : Nat) : Int).toNat = ixP (uidsP V) u by omega]
    have hrl := rlen_pl h2
    obtain ⟨x, hx⟩ := rget (R := R) (k := ixP (uidsP V) u) (by omega)
    have : V.rows.getD (ixP (uidsP V) u) PR0 = x.pl := by
      rw [← h2, List.getD_eq_getElem?_getD, List.getElem?_map, hx]
      rfl
    rw [this, hx]
    exact ⟨rfl, rfl⟩
  · rw [if_neg hh, if_neg hh]
    exact ⟨rfl, rfl⟩
theorem Gone_RW {nn : Bool} (h : RWm nn P V fp w) (hk : PVok V N) (hN : N ≤ 1000000) (u : Int) :
    Calls Tryz.prog 27 #[.pointer (some ⟨P, 0, none⟩), .int .i64 u] w fun e w' => e = .returned (.bool (atP V u).gone) ∧ w' = w := by
  obtain ⟨rv, cv, R, h1, h2, rfl, h4⟩ := h
  have hl := hk.len
  have hrl := rlen_pl h2
  rw [← (at_fx h2 hk u).1]
  exact rGone_any h1 u (by omega)
theorem Recent_RW {nn : Bool} (h : RWm nn P V fp w) (hk : PVok V N) (hN : N ≤ 1000000) (u : Int) :
    Calls Tryz.prog 29 #[.pointer (some ⟨P, 0, none⟩), .int .i64 u] w fun e w' => e = .returned (.bool (atP V u).rct) ∧ w' = w := by
  obtain ⟨rv, cv, R, h1, h2, rfl, h4⟩ := h
  have hl := hk.len
  have hrl := rlen_pl h2
  rw [← (at_fx h2 hk u).2]
  exact rRecent_any h1 u (by omega)
end
end Go.Proofs.YtflkhnmggmfhfaaGreat

/- stands. -/
namespace Go.Proofs.YtflkhnmggmfhfaaGreat
open Go.RowKit

section
variable {P Q : Nat} {V : PV} {fv fr : List Nat} {w : World} {N : Nat}
set_option maxRecDepth 100000 in
set_option maxHeartbeats 4000000 in
theorem stands_any (hv : VW P V fv w) (hr : RW Q V fr w) (hk : PVok V N) (hN : N ≤ 1000000) :
    Calls Tryz.prog 15 #[.pointer (some ⟨P, 0, none⟩), .pointer (some ⟨Q, 0, none⟩)] w fun e w' => e = .returned (.bool true) ∧ Below w.heap.size w w' := by
  have hl := hk.len
  have hul := uidsP_length V
  have HU : Hid (Calls Tryz.prog 30 #[.pointer (some ⟨Q, 0, none⟩)] w (fun e w1 => ∃ a c, e = .returned (.slice a (uidsP V).length c) ∧ Calls Tryz.prog 7 #[.pointer (some ⟨P, 0, none⟩)] w1 (fun e w2 => ∃ v2, e = .returned v2 ∧ Calls Tryz.prog 22 #[v2, .slice a (uidsP V).length c] w2 (fun e w3 => e = .returned (.bool true) ∧ Nms w3 (.slice a (uidsP V).length c) (uidsP V) ∧ Below w.heap.size w w3)))) := Lib.hid (by
    refine (Uids_RW hr hk hN).mono ?_
    rintro e w1 ⟨lv, rfl, ho1⟩
    obtain ⟨a, c, e1⟩ := ownsRow_shape ho1.row
    subst e1
    refine ⟨a, c, rfl, (Uids_W (hv.on ho1.below) hk hN).mono ?_⟩
    rintro e w2 ⟨v2, rfl, ho2⟩
    refine ⟨v2, rfl, (alike_any v2 _ (uidsP V) (uidsP V) w2 (nms_of ho2.row) ((nms_of ho1.row).on ho2.below) (by omega)).mono ?_⟩
    rintro e w3 ⟨rfl, hb3⟩
    refine ⟨by simp, ((nms_of ho1.row).on ho2.below).on hb3, ho1.below.trans ((ho2.below.trans (hb3.mono ho2.below.size)).mono ho1.below.size)⟩)
  have HSt : Hid (∀ w3, Below w.heap.size w w3 → VW P V fv w3 ∧ RW Q V fr w3) := Lib.hid (fun w3 hb => ⟨hv.on hb, hr.on hb⟩)
  have HK := Lib.hid hk
  have HUl : Hid ((uidsP V).length ≤ 1000000) := Lib.hid (by omega)
  clear hv hr hk hl hul
  go_enter Tryz.func15, Tryz.ntmps15
  go_upto_region 5 with (first | (go_at_call 30; refine HU.out.mono ?_; rintro e w1 ⟨a, c, rfl, hq⟩; have HU2 := Lib.hid hq; clear hq HU) | (go_at_call 7; refine HU2.out.mono ?_; rintro e w2 ⟨v2, rfl, hq⟩; have HU3 := Lib.hid hq; clear hq HU2) | (go_at_call 22; refine HU3.out.mono ?_; rintro e w3 ⟨rfl, hn3, hb3⟩; have HN3 := Lib.hid hn3; have HB3 := Lib.hid hb3; clear hn3 hb3 HU3))
  obtain ⟨n, hn⟩ : ∃ n, (uidsP V).length = n := ⟨_, rfl⟩
  have hn1 : n ≤ 1000000 := by rw [← hn]; exact HUl.out
  have HNl := Lib.hid hn
  rw [hn] at HN3 ⊢
  clear hn HUl
  go_loopw [6] (fun i wr => ∃ (k : Nat) (X : World), X = wr ∧ k ≤ n ∧ i = .int .i64 k ∧ Below w3.heap.size w3 X) (fun i _ => n - (intOf i).toNat)
  case atStart => exact ⟨0, _, rfl, Nat.zero_le _, rfl, Below.refl _ _⟩
  case round =>
    obtain ⟨k, X, hX, hk, rfl, hbX⟩ := hrel
    subst hX
    by_cases hlt : k < n
    · have hlti : (k : Int) < (n : Int) := by omega
      by_cases h70 : (k : Int) < 70
      · obtain ⟨a1, c1, e1, hx1⟩ := HN3.out
        rw [HNl.out] at e1 hx1
        injection e1 with p1 p2 p3
        subst p1
        obtain ⟨gl, ol, rfl, hgl, hc⟩ := hx1 (by omega)
        have k1 := hc k hlt
        have hkU : k < (uidsP V).length := by rw [HNl.out]; exact hlt
        obtain ⟨sq1, sq2⟩ := seq_at (riseP HK.out) hkU
        have HX : Hid (∀ Y, Below w3.heap.size w3 Y → Y.cell? ⟨gl, ol + k, none⟩ = some (.int .i64 ((uidsP V).getD k 0))) := Lib.hid (fun Y hb => by rw [hb.cell (p := ⟨gl, ol + k, none⟩) hgl]; exact k1)
        have kX := HX.out X hbX
        have HSq : Hid (Calls Tryz.prog 25 #[.pointer (some ⟨P, 0, none⟩), .int .i64 ((uidsP V).getD k 0)] X (fun e w' => e = .returned (.tuple #[.int .i64 ((k : Int) + 1), .int .i64 0]) ∧ Below w3.heap.size w3 w')) := Lib.hid (by
          obtain ⟨q1, q2⟩ := HSt.out X (HB3.out.trans (hbX.mono HB3.out.size))
          refine (Seq_W q1 HK.out hN ((uidsP V).getD k 0)).mono ?_
          rw [sq1, sq2]
          rintro e w' ⟨rfl, hb⟩
          exact ⟨rfl, hbX.trans (hb.mono hbX.size)⟩)
        have HGo : Hid (∀ Y, Below w3.heap.size w3 Y → Calls Tryz.prog 26 #[.pointer (some ⟨P, 0, none⟩), .int .i64 ((uidsP V).getD k 0)] Y (fun e w' => e = .returned (.bool (atP V ((uidsP V).getD k 0)).gone) ∧ Below w3.heap.size w3 w')) := Lib.hid (fun Y hY => by
          obtain ⟨q1, q2⟩ := HSt.out Y (HB3.out.trans (hY.mono HB3.out.size))
          refine (Gone_W q1 HK.out hN _).mono ?_
          rintro e w' ⟨rfl, hb⟩
          exact ⟨rfl, hY.trans (hb.mono hY.size)⟩)
        have HRe : Hid (∀ Y, Below w3.heap.size w3 Y → Calls Tryz.prog 28 #[.pointer (some ⟨P, 0, none⟩), .int .i64 ((uidsP V).getD k 0)] Y (fun e w' => e = .returned (.bool (atP V ((uidsP V).getD k 0)).rct) ∧ Below w3.heap.size w3 w')) := Lib.hid (fun Y hY => by
          obtain ⟨q1, q2⟩ := HSt.out Y (HB3.out.trans (hY.mono HB3.out.size))
          refine (Recent_W q1 HK.out hN _).mono ?_
          rintro e w' ⟨rfl, hb⟩
          exact ⟨rfl, hY.trans (hb.mono hY.size)⟩)
        have HRGo : Hid (∀ Y, Below w3.heap.size w3 Y → Calls Tryz.prog 27 #[.pointer (some ⟨Q, 0, none⟩), .int .i64 ((uidsP V).getD k 0)] Y (fun e w' => e = .returned (.bool (atP V ((uidsP V).getD k 0)).gone) ∧ w' = Y)) := Lib.hid (fun Y hY => Gone_RW (HSt.out Y (HB3.out.trans (hY.mono HB3.out.size))).2 HK.out hN _)
        have HRRe : Hid (∀ Y, Below w3.heap.size w3 Y → Calls Tryz.prog 29 #[.pointer (some ⟨Q, 0, none⟩), .int .i64 ((uidsP V).getD k 0)] Y (fun e w' => e = .returned (.bool (atP V ((uidsP V).getD k 0)).rct) ∧ w' = Y)) := Lib.hid (fun Y hY => Recent_RW (HSt.out Y (HB3.out.trans (hY.mono HB3.out.size))).2 HK.out hN _)
        have HNum := Lib.hid (num_any 0)
        have hkw : IntKind.i64.wrap ((k : Int) + 1) = (k : Int) + 1 := by simp only [IntKind.wrap, IntKind.signed, IntKind.bits]; simp; omega
        clear hx1 hc k1 hkU sq1 sq2 hbX p2 p3
        generalize (atP V ((uidsP V).getD k 0)).gone = gb at *
        generalize (atP V ((uidsP V).getD k 0)).rct = rb at *
        generalize (uidsP V).getD k 0 = u at *
        have qk : (((k : Int) + 1) != ((k : Int) + 1)) = false := by simp
        have qg : (gb != gb) = false := by simp
        have qr : (rb != rb) = false := by simp
        go_upto_region 8 with (go_at_call 25; refine HSq.out.mono ?_; rintro e w4 ⟨rfl, hb4⟩; have HBd := Lib.hid (hb4.trans ((Below.refl w4.heap.size w4).drew.mono hb4.size)); clear hb4)
        refine wp_region_N 38 (fun X => Below w3.heap.size w3 X) (by kernel_rfl) ?_
        refine wpAnyN_take (i := 0) (oi := { dst := some 35, op := Go.Op.move (Go.Operand.tmp 8), type := 66, pos := "law.go:252", after := #[], guard := none }) (oL := { dst := some 73, op := Go.Op.pick (Go.Operand.tmp 59) (Go.Operand.const (Go.Value.bool true)) (Go.Operand.tmp 72), type := 4, pos := "law.go:252", after := #[{ on := 24, ground := Go.Ground.data }, { on := 37, ground := Go.Ground.data }], guard := none }) (v := .int .i64 0) rfl rfl (by kernel_rfl) (by kernel_rfl) (by kernel_rfl) (by kernel_rfl) (fun _ _ _ h => h) (Or.inl ⟨by kernel_rfl, ?_⟩) HBd.out ?_
        · (intro X hX; have z1 := HX.out X hX <;> (go_simp; try (with_reducible rfl)))
        (try simp only [Act.put, List.setIfInBounds_toArray, List.set_cons_zero, List.set_cons_succ])
        refine wpAnyN_one (i := 1) (o := { dst := some 36, op := Go.Op.call { callee := Go.Callee.value (Go.Operand.func 23), args := #[Go.Operand.tmp 35], argTypes := #[66] }, type := 3, pos := "law.go:252", after := #[{ on := 0, ground := Go.Ground.data }], guard := none }) (by kernel_rfl) rfl (fun K hK => ?_)
        go_simp
        refine (HNum.out _).mono ?_
        rintro e w5 ⟨rfl, hw5⟩
        subst w5
        refine hK.out _ _ (fun _ => HBd.out) ?_
        clear hK K
        (try simp only [Act.put, List.setIfInBounds_toArray, List.set_cons_zero, List.set_cons_succ])
        refine wpAnyN_take (i := 2) (oi := { dst := some 37, op := Go.Op.binOp Go.BinOp.neq 3 (Go.Operand.tmp 36) (Go.Operand.const (Go.Value.int Go.IntKind.i64 0)) 3, type := 4, pos := "law.go:252", after := #[{ on := 1, ground := Go.Ground.data }], guard := none }) (oL := { dst := some 73, op := Go.Op.pick (Go.Operand.tmp 59) (Go.Operand.const (Go.Value.bool true)) (Go.Operand.tmp 72), type := 4, pos := "law.go:252", after := #[{ on := 24, ground := Go.Ground.data }, { on := 37, ground := Go.Ground.data }], guard := none }) (v := .bool false) rfl rfl (by kernel_rfl) (by kernel_rfl) (by kernel_rfl) (by kernel_rfl) (fun _ _ _ h => h) (Or.inl ⟨by kernel_rfl, ?_⟩) HBd.out ?_
        · (intro X hX; have z1 := HX.out X hX <;> (go_simp; try (with_reducible rfl)))
        (try simp only [Act.put, List.setIfInBounds_toArray, List.set_cons_zero, List.set_cons_succ])
        refine wpAnyN_take (i := 3) (oi := { dst := some 38, op := Go.Op.move (Go.Operand.tmp 37), type := 4, pos := "law.go:252", after := #[{ on := 2, ground := Go.Ground.data }, { on := 1, ground := Go.Ground.chain }], guard := none }) (oL := { dst := some 73, op := Go.Op.pick (Go.Operand.tmp 59) (Go.Operand.const (Go.Value.bool true)) (Go.Operand.tmp 72), type := 4, pos := "law.go:252", after := #[{ on := 24, ground := Go.Ground.data }, { on := 37, ground := Go.Ground.data }], guard := none }) (v := .bool false) rfl rfl (by kernel_rfl) (by kernel_rfl) (by kernel_rfl) (by kernel_rfl) (fun _ _ _ h => h) (Or.inl ⟨by kernel_rfl, ?_⟩) HBd.out ?_
        · (intro X hX; have z1 := HX.out X hX <;> (go_simp; try (with_reducible rfl)))
        (try simp only [Act.put, List.setIfInBounds_toArray, List.set_cons_zero, List.set_cons_succ])
        refine wpAnyN_take (i := 4) (oi := { dst := some 39, op := Go.Op.move (Go.Operand.tmp 7), type := 3, pos := "law.go:252", after := #[{ on := 3, ground := Go.Ground.guard }], guard := some (3, false) }) (oL := { dst := some 73, op := Go.Op.pick (Go.Operand.tmp 59) (Go.Operand.const (Go.Value.bool true)) (Go.Operand.tmp 72), type := 4, pos := "law.go:252", after := #[{ on := 24, ground := Go.Ground.data }, { on := 37, ground := Go.Ground.data }], guard := none }) (v := .int .i64 ((k : Int) + 1)) rfl rfl (by kernel_rfl) (by kernel_rfl) (by kernel_rfl) (by kernel_rfl) (fun _ _ _ h => h) (Or.inl ⟨by kernel_rfl, ?_⟩) HBd.out ?_
        · (intro X hX; have z1 := HX.out X hX <;> (go_simp; try (with_reducible rfl)))
        (try simp only [Act.put, List.setIfInBounds_toArray, List.set_cons_zero, List.set_cons_succ])
        refine wpAnyN_take (i := 5) (oi := { dst := some 40, op := Go.Op.move (Go.Operand.tmp 6), type := 3, pos := "law.go:252", after := #[{ on := 3, ground := Go.Ground.guard }], guard := some (3, false) }) (oL := { dst := some 73, op := Go.Op.pick (Go.Operand.tmp 59) (Go.Operand.const (Go.Value.bool true)) (Go.Operand.tmp 72), type := 4, pos := "law.go:252", after := #[{ on := 24, ground := Go.Ground.data }, { on := 37, ground := Go.Ground.data }], guard := none }) (v := .int .i64 (k : Int)) rfl rfl (by kernel_rfl) (by kernel_rfl) (by kernel_rfl) (by kernel_rfl) (fun _ _ _ h => h) (Or.inl ⟨by kernel_rfl, ?_⟩) HBd.out ?_
        · (intro X hX; have z1 := HX.out X hX <;> (go_simp; try (with_reducible rfl)))
        (try simp only [Act.put, List.setIfInBounds_toArray, List.set_cons_zero, List.set_cons_succ])
        refine wpAnyN_take (i := 6) (oi := { dst := some 41, op := Go.Op.binOp Go.BinOp.add 3 (Go.Operand.tmp 40) (Go.Operand.const (Go.Value.int Go.IntKind.i64 1)) 3, type := 3, pos := "law.go:252", after := #[{ on := 5, ground := Go.Ground.data }, { on := 3, ground := Go.Ground.guard }], guard := some (3, false) }) (oL := { dst := some 73, op := Go.Op.pick (Go.Operand.tmp 59) (Go.Operand.const (Go.Value.bool true)) (Go.Operand.tmp 72), type := 4, pos := "law.go:252", after := #[{ on := 24, ground := Go.Ground.data }, { on := 37, ground := Go.Ground.data }], guard := none }) (v := .int .i64 ((k : Int) + 1)) rfl rfl (by kernel_rfl) (by kernel_rfl) (by kernel_rfl) (by kernel_rfl) (fun _ _ _ h => h) (Or.inl ⟨by kernel_rfl, ?_⟩) HBd.out ?_
        · (intro X hX; have z1 := HX.out X hX <;> (go_simp; try (with_reducible rfl)))
        (try simp only [Act.put, List.setIfInBounds_toArray, List.set_cons_zero, List.set_cons_succ])
        refine wpAnyN_take (i := 7) (oi := { dst := some 42, op := Go.Op.binOp Go.BinOp.neq 3 (Go.Operand.tmp 39) (Go.Operand.tmp 41) 3, type := 4, pos := "law.go:252", after := #[{ on := 4, ground := Go.Ground.data }, { on := 6, ground := Go.Ground.data }, { on := 3, ground := Go.Ground.guard }], guard := some (3, false) }) (oL := { dst := some 73, op := Go.Op.pick (Go.Operand.tmp 59) (Go.Operand.const (Go.Value.bool true)) (Go.Operand.tmp 72), type := 4, pos := "law.go:252", after := #[{ on := 24, ground := Go.Ground.data }, { on := 37, ground := Go.Ground.data }], guard := none }) (v := .bool false) rfl rfl (by kernel_rfl) (by kernel_rfl) (by kernel_rfl) (by kernel_rfl) (fun _ _ _ h => h) (Or.inl ⟨by kernel_rfl, ?_⟩) HBd.out ?_
        · (intro X hX; have z1 := HX.out X hX <;> (go_simp; try (with_reducible rfl)))
        (try simp only [Act.put, List.setIfInBounds_toArray, List.set_cons_zero, List.set_cons_succ])
        refine wpAnyN_take (i := 8) (oi := { dst := some 43, op := Go.Op.pick (Go.Operand.tmp 38) (Go.Operand.const (Go.Value.bool true)) (Go.Operand.tmp 42), type := 4, pos := "law.go:252", after := #[{ on := 3, ground := Go.Ground.data }, { on := 7, ground := Go.Ground.data }], guard := none }) (oL := { dst := some 73, op := Go.Op.pick (Go.Operand.tmp 59) (Go.Operand.const (Go.Value.bool true)) (Go.Operand.tmp 72), type := 4, pos := "law.go:252", after := #[{ on := 24, ground := Go.Ground.data }, { on := 37, ground := Go.Ground.data }], guard := none }) (v := .bool false) rfl rfl (by kernel_rfl) (by kernel_rfl) (by kernel_rfl) (by kernel_rfl) (fun _ _ _ h => h) (Or.inl ⟨by kernel_rfl, ?_⟩) HBd.out ?_
        · (intro X hX; have z1 := HX.out X hX <;> (go_simp; try (with_reducible rfl)))
        (try simp only [Act.put, List.setIfInBounds_toArray, List.set_cons_zero, List.set_cons_succ])
        refine wpAnyN_take (i := 9) (oi := { dst := some 44, op := Go.Op.move (Go.Operand.tmp 43), type := 4, pos := "law.go:252", after := #[{ on := 8, ground := Go.Ground.data }, { on := 3, ground := Go.Ground.chain }], guard := none }) (oL := { dst := some 73, op := Go.Op.pick (Go.Operand.tmp 59) (Go.Operand.const (Go.Value.bool true)) (Go.Operand.tmp 72), type := 4, pos := "law.go:252", after := #[{ on := 24, ground := Go.Ground.data }, { on := 37, ground := Go.Ground.data }], guard := none }) (v := .bool false) rfl rfl (by kernel_rfl) (by kernel_rfl) (by kernel_rfl) (by kernel_rfl) (fun _ _ _ h => h) (Or.inl ⟨by kernel_rfl, ?_⟩) HBd.out ?_
        · (intro X hX; have z1 := HX.out X hX <;> (go_simp; try (with_reducible rfl)))
        (try simp only [Act.put, List.setIfInBounds_toArray, List.set_cons_zero, List.set_cons_succ])
        refine wpAnyN_take (i := 10) (oi := { dst := some 45, op := Go.Op.move (Go.Operand.tmp 0), type := 24, pos := "law.go:252", after := #[{ on := 9, ground := Go.Ground.guard }], guard := some (9, false) }) (oL := { dst := some 73, op := Go.Op.pick (Go.Operand.tmp 59) (Go.Operand.const (Go.Value.bool true)) (Go.Operand.tmp 72), type := 4, pos := "law.go:252", after := #[{ on := 24, ground := Go.Ground.data }, { on := 37, ground := Go.Ground.data }], guard := none }) (v := .pointer (some ⟨P, 0, none⟩)) rfl rfl (by kernel_rfl) (by kernel_rfl) (by kernel_rfl) (by kernel_rfl) (fun _ _ _ h => h) (Or.inl ⟨by kernel_rfl, ?_⟩) HBd.out ?_
        · (intro X hX; have z1 := HX.out X hX <;> (go_simp; try (with_reducible rfl)))
        (try simp only [Act.put, List.setIfInBounds_toArray, List.set_cons_zero, List.set_cons_succ])
        refine wpAnyN_take (i := 11) (oi := { dst := some 46, op := Go.Op.move (Go.Operand.tmp 5), type := 26, pos := "law.go:252", after := #[{ on := 9, ground := Go.Ground.guard }], guard := some (9, false) }) (oL := { dst := some 73, op := Go.Op.pick (Go.Operand.tmp 59) (Go.Operand.const (Go.Value.bool true)) (Go.Operand.tmp 72), type := 4, pos := "law.go:252", after := #[{ on := 24, ground := Go.Ground.data }, { on := 37, ground := Go.Ground.data }], guard := none }) (v := .slice (some ⟨gl, ol, none⟩) n c) rfl rfl (by kernel_rfl) (by kernel_rfl) (by kernel_rfl) (by kernel_rfl) (fun _ _ _ h => h) (Or.inl ⟨by kernel_rfl, ?_⟩) HBd.out ?_
        · (intro X hX; have z1 := HX.out X hX <;> (go_simp; try (with_reducible rfl)))
        (try simp only [Act.put, List.setIfInBounds_toArray, List.set_cons_zero, List.set_cons_succ])
        refine wpAnyN_take (i := 12) (oi := { dst := some 47, op := Go.Op.move (Go.Operand.tmp 6), type := 3, pos := "law.go:252", after := #[{ on := 9, ground := Go.Ground.guard }], guard := some (9, false) }) (oL := { dst := some 73, op := Go.Op.pick (Go.Operand.tmp 59) (Go.Operand.const (Go.Value.bool true)) (Go.Operand.tmp 72), type := 4, pos := "law.go:252", after := #[{ on := 24, ground := Go.Ground.data }, { on := 37, ground := Go.Ground.data }], guard := none }) (v := .int .i64 (k : Int)) rfl rfl (by kernel_rfl) (by kernel_rfl) (by kernel_rfl) (by kernel_rfl) (fun _ _ _ h => h) (Or.inl ⟨by kernel_rfl, ?_⟩) HBd.out ?_
        · (intro X hX; have z1 := HX.out X hX <;> (go_simp; try (with_reducible rfl)))
        (try simp only [Act.put, List.setIfInBounds_toArray, List.set_cons_zero, List.set_cons_succ])
        refine wpAnyN_take (i := 13) (oi := { dst := some 48, op := Go.Op.indexAddr 26 (Go.Operand.tmp 46) (Go.Operand.tmp 47), type := 0, pos := "law.go:252", after := #[{ on := 11, ground := Go.Ground.data }, { on := 12, ground := Go.Ground.data }, { on := 9, ground := Go.Ground.guard }], guard := some (9, false) }) (oL := { dst := some 73, op := Go.Op.pick (Go.Operand.tmp 59) (Go.Operand.const (Go.Value.bool true)) (Go.Operand.tmp 72), type := 4, pos := "law.go:252", after := #[{ on := 24, ground := Go.Ground.data }, { on := 37, ground := Go.Ground.data }], guard := none }) (v := .pointer (some ⟨gl, ol + k, none⟩)) rfl rfl (by kernel_rfl) (by kernel_rfl) (by kernel_rfl) (by kernel_rfl) (fun _ _ _ h => h) (Or.inl ⟨by kernel_rfl, ?_⟩) HBd.out ?_
        · (intro X hX; have z1 := HX.out X hX <;> (go_simp; try (with_reducible rfl)))
        (try simp only [Act.put, List.setIfInBounds_toArray, List.set_cons_zero, List.set_cons_succ])
        refine wpAnyN_take (i := 14) (oi := { dst := some 49, op := Go.Op.load 3 (Go.Operand.tmp 48), type := 3, pos := "law.go:252", after := #[{ on := 13, ground := Go.Ground.data }, { on := 9, ground := Go.Ground.guard }], guard := some (9, false) }) (oL := { dst := some 73, op := Go.Op.pick (Go.Operand.tmp 59) (Go.Operand.const (Go.Value.bool true)) (Go.Operand.tmp 72), type := 4, pos := "law.go:252", after := #[{ on := 24, ground := Go.Ground.data }, { on := 37, ground := Go.Ground.data }], guard := none }) (v := .int .i64 u) rfl rfl (by kernel_rfl) (by kernel_rfl) (by kernel_rfl) (by kernel_rfl) (fun _ _ _ h => h) (Or.inl ⟨by kernel_rfl, ?_⟩) HBd.out ?_
        · (intro X hX; have z1 := HX.out X hX <;> (go_simp; try (with_reducible rfl)))
        (try simp only [Act.put, List.setIfInBounds_toArray, List.set_cons_zero, List.set_cons_succ])
        refine wpAnyN_take (i := 16) (oi := { dst := some 51, op := Go.Op.move (Go.Operand.tmp 1), type := 36, pos := "law.go:252", after := #[{ on := 9, ground := Go.Ground.guard }], guard := some (9, false) }) (oL := { dst := some 73, op := Go.Op.pick (Go.Operand.tmp 59) (Go.Operand.const (Go.Value.bool true)) (Go.Operand.tmp 72), type := 4, pos := "law.go:252", after := #[{ on := 24, ground := Go.Ground.data }, { on := 37, ground := Go.Ground.data }], guard := none }) (v := .pointer (some ⟨Q, 0, none⟩)) rfl rfl (by kernel_rfl) (by kernel_rfl) (by kernel_rfl) (by kernel_rfl) (fun _ _ _ h => h) (Or.inl ⟨by kernel_rfl, ?_⟩) HBd.out ?_
        · (intro X hX; have z1 := HX.out X hX <;> (go_simp; try (with_reducible rfl)))
        (try simp only [Act.put, List.setIfInBounds_toArray, List.set_cons_zero, List.set_cons_succ])
        refine wpAnyN_take (i := 17) (oi := { dst := some 52, op := Go.Op.move (Go.Operand.tmp 5), type := 26, pos := "law.go:252", after := #[{ on := 9, ground := Go.Ground.guard }], guard := some (9, false) }) (oL := { dst := some 73, op := Go.Op.pick (Go.Operand.tmp 59) (Go.Operand.const (Go.Value.bool true)) (Go.Operand.tmp 72), type := 4, pos := "law.go:252", after := #[{ on := 24, ground := Go.Ground.data }, { on := 37, ground := Go.Ground.data }], guard := none }) (v := .slice (some ⟨gl, ol, none⟩) n c) rfl rfl (by kernel_rfl) (by kernel_rfl) (by kernel_rfl) (by kernel_rfl) (fun _ _ _ h => h) (Or.inl ⟨by kernel_rfl, ?_⟩) HBd.out ?_
        · (intro X hX; have z1 := HX.out X hX <;> (go_simp; try (with_reducible rfl)))
        (try simp only [Act.put, List.setIfInBounds_toArray, List.set_cons_zero, List.set_cons_succ])
        refine wpAnyN_take (i := 18) (oi := { dst := some 53, op := Go.Op.move (Go.Operand.tmp 6), type := 3, pos := "law.go:252", after := #[{ on := 9, ground := Go.Ground.guard }], guard := some (9, false) }) (oL := { dst := some 73, op := Go.Op.pick (Go.Operand.tmp 59) (Go.Operand.const (Go.Value.bool true)) (Go.Operand.tmp 72), type := 4, pos := "law.go:252", after := #[{ on := 24, ground := Go.Ground.data }, { on := 37, ground := Go.Ground.data }], guard := none }) (v := .int .i64 (k : Int)) rfl rfl (by kernel_rfl) (by kernel_rfl) (by kernel_rfl) (by kernel_rfl) (fun _ _ _ h => h) (Or.inl ⟨by kernel_rfl, ?_⟩) HBd.out ?_
        · (intro X hX; have z1 := HX.out X hX <;> (go_simp; try (with_reducible rfl)))
        (try simp only [Act.put, List.setIfInBounds_toArray, List.set_cons_zero, List.set_cons_succ])
        refine wpAnyN_take (i := 19) (oi := { dst := some 54, op := Go.Op.indexAddr 26 (Go.Operand.tmp 52) (Go.Operand.tmp 53), type := 0, pos := "law.go:252", after := #[{ on := 17, ground := Go.Ground.data }, { on := 18, ground := Go.Ground.data }, { on := 9, ground := Go.Ground.guard }], guard := some (9, false) }) (oL := { dst := some 73, op := Go.Op.pick (Go.Operand.tmp 59) (Go.Operand.const (Go.Value.bool true)) (Go.Operand.tmp 72), type := 4, pos := "law.go:252", after := #[{ on := 24, ground := Go.Ground.data }, { on := 37, ground := Go.Ground.data }], guard := none }) (v := .pointer (some ⟨gl, ol + k, none⟩)) rfl rfl (by kernel_rfl) (by kernel_rfl) (by kernel_rfl) (by kernel_rfl) (fun _ _ _ h => h) (Or.inl ⟨by kernel_rfl, ?_⟩) HBd.out ?_
        · (intro X hX; have z1 := HX.out X hX <;> (go_simp; try (with_reducible rfl)))
        (try simp only [Act.put, List.setIfInBounds_toArray, List.set_cons_zero, List.set_cons_succ])
        refine wpAnyN_take (i := 20) (oi := { dst := some 55, op := Go.Op.load 3 (Go.Operand.tmp 54), type := 3, pos := "law.go:252", after := #[{ on := 19, ground := Go.Ground.data }, { on := 9, ground := Go.Ground.guard }], guard := some (9, false) }) (oL := { dst := some 73, op := Go.Op.pick (Go.Operand.tmp 59) (Go.Operand.const (Go.Value.bool true)) (Go.Operand.tmp 72), type := 4, pos := "law.go:252", after := #[{ on := 24, ground := Go.Ground.data }, { on := 37, ground := Go.Ground.data }], guard := none }) (v := .int .i64 u) rfl rfl (by kernel_rfl) (by kernel_rfl) (by kernel_rfl) (by kernel_rfl) (fun _ _ _ h => h) (Or.inl ⟨by kernel_rfl, ?_⟩) HBd.out ?_
        · (intro X hX; have z1 := HX.out X hX <;> (go_simp; try (with_reducible rfl)))
        (try simp only [Act.put, List.setIfInBounds_toArray, List.set_cons_zero, List.set_cons_succ])
        refine wpAnyN_one (i := 15) (o := { dst := some 50, op := Go.Op.call { callee := Go.Callee.value (Go.Operand.func 26), args := #[Go.Operand.tmp 45, Go.Operand.tmp 49], argTypes := #[24, 3] }, type := 4, pos := "law.go:252", after := #[{ on := 10, ground := Go.Ground.data }, { on := 14, ground := Go.Ground.data }, { on := 9, ground := Go.Ground.chain }, { on := 9, ground := Go.Ground.guard }], guard := some (9, false) }) (by kernel_rfl) rfl (fun K hK => ?_)
        go_simp
        refine (HGo.out _ HBd.out).mono ?_
        rintro e w6 ⟨rfl, hw6⟩
        have Hw6 := Lib.hid hw6
        clear hw6
        refine hK.out _ _ (fun _ => Hw6.out) ?_
        clear hK K
        (try simp only [Act.put, List.setIfInBounds_toArray, List.set_cons_zero, List.set_cons_succ])
        refine wpAnyN_one (i := 21) (o := { dst := some 56, op := Go.Op.call { callee := Go.Callee.value (Go.Operand.func 27), args := #[Go.Operand.tmp 51, Go.Operand.tmp 55], argTypes := #[36, 3] }, type := 4, pos := "law.go:252", after := #[{ on := 16, ground := Go.Ground.data }, { on := 20, ground := Go.Ground.data }, { on := 15, ground := Go.Ground.chain }, { on := 9, ground := Go.Ground.guard }], guard := some (9, false) }) (by kernel_rfl) rfl (fun K hK => ?_)
        go_simp
        refine (HRGo.out _ Hw6.out).mono ?_
        rintro e w7 ⟨rfl, hw7⟩
        subst w7
        refine hK.out _ _ (fun _ => Hw6.out) ?_
        clear hK K
        (try simp only [Act.put, List.setIfInBounds_toArray, List.set_cons_zero, List.set_cons_succ])
        refine wpAnyN_take (i := 22) (oi := { dst := some 57, op := Go.Op.binOp Go.BinOp.neq 4 (Go.Operand.tmp 50) (Go.Operand.tmp 56) 4, type := 4, pos := "law.go:252", after := #[{ on := 15, ground := Go.Ground.data }, { on := 21, ground := Go.Ground.data }, { on := 9, ground := Go.Ground.guard }], guard := some (9, false) }) (oL := { dst := some 73, op := Go.Op.pick (Go.Operand.tmp 59) (Go.Operand.const (Go.Value.bool true)) (Go.Operand.tmp 72), type := 4, pos := "law.go:252", after := #[{ on := 24, ground := Go.Ground.data }, { on := 37, ground := Go.Ground.data }], guard := none }) (v := .bool false) rfl rfl (by kernel_rfl) (by kernel_rfl) (by kernel_rfl) (by kernel_rfl) (fun _ _ _ h => h) (Or.inl ⟨by kernel_rfl, ?_⟩) Hw6.out ?_
        · (intro X hX; have z1 := HX.out X hX <;> (go_simp; try (with_reducible rfl)))
        (try simp only [Act.put, List.setIfInBounds_toArray, List.set_cons_zero, List.set_cons_succ])
        refine wpAnyN_take (i := 23) (oi := { dst := some 58, op := Go.Op.pick (Go.Operand.tmp 44) (Go.Operand.const (Go.Value.bool true)) (Go.Operand.tmp 57), type := 4, pos := "law.go:252", after := #[{ on := 9, ground := Go.Ground.data }, { on := 22, ground := Go.Ground.data }], guard := none }) (oL := { dst := some 73, op := Go.Op.pick (Go.Operand.tmp 59) (Go.Operand.const (Go.Value.bool true)) (Go.Operand.tmp 72), type := 4, pos := "law.go:252", after := #[{ on := 24, ground := Go.Ground.data }, { on := 37, ground := Go.Ground.data }], guard := none }) (v := .bool false) rfl rfl (by kernel_rfl) (by kernel_rfl) (by kernel_rfl) (by kernel_rfl) (fun _ _ _ h => h) (Or.inl ⟨by kernel_rfl, ?_⟩) Hw6.out ?_
        · (intro X hX; have z1 := HX.out X hX <;> (go_simp; try (with_reducible rfl)))
        (try simp only [Act.put, List.setIfInBounds_toArray, List.set_cons_zero, List.set_cons_succ])
        refine wpAnyN_take (i := 24) (oi := { dst := some 59, op := Go.Op.move (Go.Operand.tmp 58), type := 4, pos := "law.go:252", after := #[{ on := 23, ground := Go.Ground.data }, { on := 21, ground := Go.Ground.chain }], guard := none }) (oL := { dst := some 73, op := Go.Op.pick (Go.Operand.tmp 59) (Go.Operand.const (Go.Value.bool true)) (Go.Operand.tmp 72), type := 4, pos := "law.go:252", after := #[{ on := 24, ground := Go.Ground.data }, { on := 37, ground := Go.Ground.data }], guard := none }) (v := .bool false) rfl rfl (by kernel_rfl) (by kernel_rfl) (by kernel_rfl) (by kernel_rfl) (fun _ _ _ h => h) (Or.inl ⟨by kernel_rfl, ?_⟩) Hw6.out ?_
        · (intro X hX; have z1 := HX.out X hX <;> (go_simp; try (with_reducible rfl)))
        (try simp only [Act.put, List.setIfInBounds_toArray, List.set_cons_zero, List.set_cons_succ])
        refine wpAnyN_take (i := 25) (oi := { dst := some 60, op := Go.Op.move (Go.Operand.tmp 0), type := 24, pos := "law.go:252", after := #[{ on := 24, ground := Go.Ground.guard }], guard := some (24, false) }) (oL := { dst := some 73, op := Go.Op.pick (Go.Operand.tmp 59) (Go.Operand.const (Go.Value.bool true)) (Go.Operand.tmp 72), type := 4, pos := "law.go:252", after := #[{ on := 24, ground := Go.Ground.data }, { on := 37, ground := Go.Ground.data }], guard := none }) (v := .pointer (some ⟨P, 0, none⟩)) rfl rfl (by kernel_rfl) (by kernel_rfl) (by kernel_rfl) (by kernel_rfl) (fun _ _ _ h => h) (Or.inl ⟨by kernel_rfl, ?_⟩) Hw6.out ?_
        · (intro X hX; have z1 := HX.out X hX <;> (go_simp; try (with_reducible rfl)))
        (try simp only [Act.put, List.setIfInBounds_toArray, List.set_cons_zero, List.set_cons_succ])
        refine wpAnyN_take (i := 26) (oi := { dst := some 61, op := Go.Op.move (Go.Operand.tmp 5), type := 26, pos := "law.go:252", after := #[{ on := 24, ground := Go.Ground.guard }], guard := some (24, false) }) (oL := { dst := some 73, op := Go.Op.pick (Go.Operand.tmp 59) (Go.Operand.const (Go.Value.bool true)) (Go.Operand.tmp 72), type := 4, pos := "law.go:252", after := #[{ on := 24, ground := Go.Ground.data }, { on := 37, ground := Go.Ground.data }], guard := none }) (v := .slice (some ⟨gl, ol, none⟩) n c) rfl rfl (by kernel_rfl) (by kernel_rfl) (by kernel_rfl) (by kernel_rfl) (fun _ _ _ h => h) (Or.inl ⟨by kernel_rfl, ?_⟩) Hw6.out ?_
        · (intro X hX; have z1 := HX.out X hX <;> (go_simp; try (with_reducible rfl)))
        (try simp only [Act.put, List.setIfInBounds_toArray, List.set_cons_zero, List.set_cons_succ])
        refine wpAnyN_take (i := 27) (oi := { dst := some 62, op := Go.Op.move (Go.Operand.tmp 6), type := 3, pos := "law.go:252", after := #[{ on := 24, ground := Go.Ground.guard }], guard := some (24, false) }) (oL := { dst := some 73, op := Go.Op.pick (Go.Operand.tmp 59) (Go.Operand.const (Go.Value.bool true)) (Go.Operand.tmp 72), type := 4, pos := "law.go:252", after := #[{ on := 24, ground := Go.Ground.data }, { on := 37, ground := Go.Ground.data }], guard := none }) (v := .int .i64 (k : Int)) rfl rfl (by kernel_rfl) (by kernel_rfl) (by kernel_rfl) (by kernel_rfl) (fun _ _ _ h => h) (Or.inl ⟨by kernel_rfl, ?_⟩) Hw6.out ?_
        · (intro X hX; have z1 := HX.out X hX <;> (go_simp; try (with_reducible rfl)))
        (try simp only [Act.put, List.setIfInBounds_toArray, List.set_cons_zero, List.set_cons_succ])
        refine wpAnyN_take (i := 28) (oi := { dst := some 63, op := Go.Op.indexAddr 26 (Go.Operand.tmp 61) (Go.Operand.tmp 62), type := 0, pos := "law.go:252", after := #[{ on := 26, ground := Go.Ground.data }, { on := 27, ground := Go.Ground.data }, { on := 24, ground := Go.Ground.guard }], guard := some (24, false) }) (oL := { dst := some 73, op := Go.Op.pick (Go.Operand.tmp 59) (Go.Operand.const (Go.Value.bool true)) (Go.Operand.tmp 72), type := 4, pos := "law.go:252", after := #[{ on := 24, ground := Go.Ground.data }, { on := 37, ground := Go.Ground.data }], guard := none }) (v := .pointer (some ⟨gl, ol + k, none⟩)) rfl rfl (by kernel_rfl) (by kernel_rfl) (by kernel_rfl) (by kernel_rfl) (fun _ _ _ h => h) (Or.inl ⟨by kernel_rfl, ?_⟩) Hw6.out ?_
        · (intro X hX; have z1 := HX.out X hX <;> (go_simp; try (with_reducible rfl)))
        (try simp only [Act.put, List.setIfInBounds_toArray, List.set_cons_zero, List.set_cons_succ])
        refine wpAnyN_take (i := 29) (oi := { dst := some 64, op := Go.Op.load 3 (Go.Operand.tmp 63), type := 3, pos := "law.go:252", after := #[{ on := 28, ground := Go.Ground.data }, { on := 24, ground := Go.Ground.guard }], guard := some (24, false) }) (oL := { dst := some 73, op := Go.Op.pick (Go.Operand.tmp 59) (Go.Operand.const (Go.Value.bool true)) (Go.Operand.tmp 72), type := 4, pos := "law.go:252", after := #[{ on := 24, ground := Go.Ground.data }, { on := 37, ground := Go.Ground.data }], guard := none }) (v := .int .i64 u) rfl rfl (by kernel_rfl) (by kernel_rfl) (by kernel_rfl) (by kernel_rfl) (fun _ _ _ h => h) (Or.inl ⟨by kernel_rfl, ?_⟩) Hw6.out ?_
        · (intro X hX; have z1 := HX.out X hX <;> (go_simp; try (with_reducible rfl)))
        (try simp only [Act.put, List.setIfInBounds_toArray, List.set_cons_zero, List.set_cons_succ])
        refine wpAnyN_take (i := 31) (oi := { dst := some 66, op := Go.Op.move (Go.Operand.tmp 1), type := 36, pos := "law.go:252", after := #[{ on := 24, ground := Go.Ground.guard }], guard := some (24, false) }) (oL := { dst := some 73, op := Go.Op.pick (Go.Operand.tmp 59) (Go.Operand.const (Go.Value.bool true)) (Go.Operand.tmp 72), type := 4, pos := "law.go:252", after := #[{ on := 24, ground := Go.Ground.data }, { on := 37, ground := Go.Ground.data }], guard := none }) (v := .pointer (some ⟨Q, 0, none⟩)) rfl rfl (by kernel_rfl) (by kernel_rfl) (by kernel_rfl) (by kernel_rfl) (fun _ _ _ h => h) (Or.inl ⟨by kernel_rfl, ?_⟩) Hw6.out ?_
        · (intro X hX; have z1 := HX.out X hX <;> (go_simp; try (with_reducible rfl)))
        (try simp only [Act.put, List.setIfInBounds_toArray, List.set_cons_zero, List.set_cons_succ])
        refine wpAnyN_take (i := 32) (oi := { dst := some 67, op := Go.Op.move (Go.Operand.tmp 5), type := 26, pos := "law.go:252", after := #[{ on := 24, ground := Go.Ground.guard }], guard := some (24, false) }) (oL := { dst := some 73, op := Go.Op.pick (Go.Operand.tmp 59) (Go.Operand.const (Go.Value.bool true)) (Go.Operand.tmp 72), type := 4, pos := "law.go:252", after := #[{ on := 24, ground := Go.Ground.data }, { on := 37, ground := Go.Ground.data }], guard := none }) (v := .slice (some ⟨gl, ol, none⟩) n c) rfl rfl (by kernel_rfl) (by kernel_rfl) (by kernel_rfl) (by kernel_rfl) (fun _ _ _ h => h) (Or.inl ⟨by kernel_rfl, ?_⟩) Hw6.out ?_
        · (intro X hX; have z1 := HX.out X hX <;> (go_simp; try (with_reducible rfl)))
        (try simp only [Act.put, List.setIfInBounds_toArray, List.set_cons_zero, List.set_cons_succ])
        refine wpAnyN_take (i := 33) (oi := { dst := some 68, op := Go.Op.move (Go.Operand.tmp 6), type := 3, pos := "law.go:252", after := #[{ on := 24, ground := Go.Ground.guard }], guard := some (24, false) }) (oL := { dst := some 73, op := Go.Op.pick (Go.Operand.tmp 59) (Go.Operand.const (Go.Value.bool true)) (Go.Operand.tmp 72), type := 4, pos := "law.go:252", after := #[{ on := 24, ground := Go.Ground.data }, { on := 37, ground := Go.Ground.data }], guard := none }) (v := .int .i64 (k : Int)) rfl rfl (by kernel_rfl) (by kernel_rfl) (by kernel_rfl) (by kernel_rfl) (fun _ _ _ h => h) (Or.inl ⟨by kernel_rfl, ?_⟩) Hw6.out ?_
        · (intro X hX; have z1 := HX.out X hX <;> (go_simp; try (with_reducible rfl)))
        (try simp only [Act.put, List.setIfInBounds_toArray, List.set_cons_zero, List.set_cons_succ])
        refine wpAnyN_take (i := 34) (oi := { dst := some 69, op := Go.Op.indexAddr 26 (Go.Operand.tmp 67) (Go.Operand.tmp 68), type := 0, pos := "law.go:252", after := #[{ on := 32, ground := Go.Ground.data }, { on := 33, ground := Go.Ground.data }, { on := 24, ground := Go.Ground.guard }], guard := some (24, false) }) (oL := { dst := some 73, op := Go.Op.pick (Go.Operand.tmp 59) (Go.Operand.const (Go.Value.bool true)) (Go.Operand.tmp 72), type := 4, pos := "law.go:252", after := #[{ on := 24, ground := Go.Ground.data }, { on := 37, ground := Go.Ground.data }], guard := none }) (v := .pointer (some ⟨gl, ol + k, none⟩)) rfl rfl (by kernel_rfl) (by kernel_rfl) (by kernel_rfl) (by kernel_rfl) (fun _ _ _ h => h) (Or.inl ⟨by kernel_rfl, ?_⟩) Hw6.out ?_
        · (intro X hX; have z1 := HX.out X hX <;> (go_simp; try (with_reducible rfl)))
        (try simp only [Act.put, List.setIfInBounds_toArray, List.set_cons_zero, List.set_cons_succ])
        refine wpAnyN_take (i := 35) (oi := { dst := some 70, op := Go.Op.load 3 (Go.Operand.tmp 69), type := 3, pos := "law.go:252", after := #[{ on := 34, ground := Go.Ground.data }, { on := 24, ground := Go.Ground.guard }], guard := some (24, false) }) (oL := { dst := some 73, op := Go.Op.pick (Go.Operand.tmp 59) (Go.Operand.const (Go.Value.bool true)) (Go.Operand.tmp 72), type := 4, pos := "law.go:252", after := #[{ on := 24, ground := Go.Ground.data }, { on := 37, ground := Go.Ground.data }], guard := none }) (v := .int .i64 u) rfl rfl (by kernel_rfl) (by kernel_rfl) (by kernel_rfl) (by kernel_rfl) (fun _ _ _ h => h) (Or.inl ⟨by kernel_rfl, ?_⟩) Hw6.out ?_
        · (intro X hX; have z1 := HX.out X hX <;> (go_simp; try (with_reducible rfl)))
        (try simp only [Act.put, List.setIfInBounds_toArray, List.set_cons_zero, List.set_cons_succ])
        refine wpAnyN_one (i := 30) (o := { dst := some 65, op := Go.Op.call { callee := Go.Callee.value (Go.Operand.func 28), args := #[Go.Operand.tmp 60, Go.Operand.tmp 64], argTypes := #[24, 3] }, type := 4, pos := "law.go:252", after := #[{ on := 25, ground := Go.Ground.data }, { on := 29, ground := Go.Ground.data }, { on := 24, ground := Go.Ground.chain }, { on := 24, ground := Go.Ground.guard }], guard := some (24, false) }) (by kernel_rfl) rfl (fun K hK => ?_)
        go_simp
        refine (HRe.out _ Hw6.out).mono ?_
        rintro e w8 ⟨rfl, hw8⟩
        have Hw8 := Lib.hid hw8
        clear hw8
        refine hK.out _ _ (fun _ => Hw8.out) ?_
        clear hK K
        (try simp only [Act.put, List.setIfInBounds_toArray, List.set_cons_zero, List.set_cons_succ])
        refine wpAnyN_one (i := 36) (o := { dst := some 71, op := Go.Op.call { callee := Go.Callee.value (Go.Operand.func 29), args := #[Go.Operand.tmp 66, Go.Operand.tmp 70], argTypes := #[36, 3] }, type := 4, pos := "law.go:252", after := #[{ on := 31, ground := Go.Ground.data }, { on := 35, ground := Go.Ground.data }, { on := 30, ground := Go.Ground.chain }, { on := 24, ground := Go.Ground.guard }], guard := some (24, false) }) (by kernel_rfl) rfl (fun K hK => ?_)
        go_simp
        refine (HRRe.out _ Hw8.out).mono ?_
        rintro e w9 ⟨rfl, hw9⟩
        subst w9
        refine hK.out _ _ (fun _ => Hw8.out) ?_
        clear hK K
        (try simp only [Act.put, List.setIfInBounds_toArray, List.set_cons_zero, List.set_cons_succ])
        refine wpAnyN_take (i := 37) (oi := { dst := some 72, op := Go.Op.binOp Go.BinOp.neq 4 (Go.Operand.tmp 65) (Go.Operand.tmp 71) 4, type := 4, pos := "law.go:252", after := #[{ on := 30, ground := Go.Ground.data }, { on := 36, ground := Go.Ground.data }, { on := 24, ground := Go.Ground.guard }], guard := some (24, false) }) (oL := { dst := some 73, op := Go.Op.pick (Go.Operand.tmp 59) (Go.Operand.const (Go.Value.bool true)) (Go.Operand.tmp 72), type := 4, pos := "law.go:252", after := #[{ on := 24, ground := Go.Ground.data }, { on := 37, ground := Go.Ground.data }], guard := none }) (v := .bool false) rfl rfl (by kernel_rfl) (by kernel_rfl) (by kernel_rfl) (by kernel_rfl) (fun _ _ _ h => h) (Or.inl ⟨by kernel_rfl, ?_⟩) Hw8.out ?_
        · (intro X hX; have z1 := HX.out X hX <;> (go_simp; try (with_reducible rfl)))
        (try simp only [Act.put, List.setIfInBounds_toArray, List.set_cons_zero, List.set_cons_succ])
        refine wpAnyN_one (i := 38) (o := { dst := some 73, op := Go.Op.pick (Go.Operand.tmp 59) (Go.Operand.const (Go.Value.bool true)) (Go.Operand.tmp 72), type := 4, pos := "law.go:252", after := #[{ on := 24, ground := Go.Ground.data }, { on := 37, ground := Go.Ground.data }], guard := none }) (by kernel_rfl) rfl (fun K hK => ?_)
        go_simp
        refine hK.out _ _ (fun e => absurd (e.symm.trans (by kernel_rfl) : false = true) Bool.false_ne_true) ?_
        clear hK K
        (try simp only [Act.put, List.setIfInBounds_toArray, List.set_cons_zero, List.set_cons_succ])
        refine wpAnyN_of_H (S' := fun _ => True) _ _ _ _ (by kernel_rfl) ?_
        refine wpAnyH_done (by kernel_rfl) ?_ _
        go_wp2_with fail
        go_roundw
        case rel => exact ⟨k + 1, _, rfl, by omega, by go_num, Hw8.out⟩
        case measure => simp [intOf]; omega
      · have HBX := Lib.hid (HB3.out.trans (hbX.mono HB3.out.size))
        clear hbX
        go_wp2_with fail
        go_ret
        exact ⟨rfl, HBX.out⟩
    · obtain rfl : k = n := by omega
      have HBX := Lib.hid (HB3.out.trans (hbX.mono HB3.out.size))
      clear hbX
      go_wp2_with fail
      go_ret
      exact ⟨rfl, HBX.out⟩
end
end Go.Proofs.YtflkhnmggmfhfaaGreat
