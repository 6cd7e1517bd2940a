/- SpanCounts: the walk. -/
import Derived.Test.YtoikjkcnekkehaaDoorWk
import Derived.Deep.AppendLies
namespace Go.Proofs.YtoikjkcnekkehaaDoor
open Go.RowKit

/-- Two rows of numbers that the call has made, apart. -/
structure TwoI (B : Nat) (v4 : Value) (l4 : List Int) (v5 : Value) (l5 : List Int) (W0 w : World) : Prop where
  a : OwnI B v4 l4 W0 w
  b : OwnI B v5 l5 W0 w
  d : ∀ k, v4.ownBlock = some k → v5.ownBlock ≠ some k
theorem TwoI.swap {B : Nat} {v4 v5 : Value} {l4 l5 : List Int} {W0 w : World} (h : TwoI B v4 l4 v5 l5 W0 w) : TwoI B v5 l5 v4 l4 W0 w := ⟨h.b, h.a, fun k h1 h2 => h.d k h2 h1⟩
theorem TwoI.on {B : Nat} {v4 v5 : Value} {l4 l5 : List Int} {W0 w w' : World} (h : TwoI B v4 l4 v5 l5 W0 w) (hb : Below w.heap.size w w') : TwoI B v4 l4 v5 l5 W0 w' := ⟨h.a.on hb, h.b.on hb, h.d⟩
/-- The second one grows by one. -/
theorem appT {ops : Array Oper} {rest : List Oper} {o : Oper} {a : Act} {Q : Exit → Act → World → Prop} (hgd : o.guard = none) (s x : Operand)
    (ho : o.op = .call { callee := .builtin .append, args := #[s, x], argTypes := #[29, 29] })
    {B : Nat} {v4 v5 : Value} {l4 l5 : List Int} {W0 w : World} (c : Int) (h2 : TwoI B v4 l4 v5 l5 W0 w) (hs : a.eval s = v5) (hx : a.eval x = .slice (some ⟨w.heap.size, 0, none⟩) 1 1)
    (hlen : l5.length + 1 ≤ 17592186044416)
    (h : ∀ v' w', TwoI B v4 l4 v' (l5 ++ [c]) W0 w' → wpList Tryd.prog ops Q rest (a.put o.dst v') w') : wpList Tryd.prog ops Q (o :: rest) a (w.alloc (.cells #[.int .i64 c] 3)) := by
  obtain ⟨i0, hi, hz0, hz1, hz2⟩ := info_parts Tryd.infoInt
  have ha := h2.a.alloc (.cells #[.int .i64 c] 3)
  have hb := h2.b.alloc (.cells #[.int .i64 c] 3)
  refine wpList_append_lies _ hgd s x 29 ho B 3 i0 (.int .i64 0) 1 8 Tryd.underlying29 hi hz0 hz1 hz2 rfl (by decide) v5 l5.length (ic l5) hs hb.row ⟨w.heap.size, 0, none⟩ 1 1 [.int .i64 c] hx rfl ?_ ?_ (by decide) (by unfold maxLen; omega) (by omega) hb.base _ rfl ?_
  · intro j u hj
    match j, hj with
    | 0, hj => simp at hj; subst hj; simp [Addr.add]
    | (j + 1), hj => simp at hj
  · intro u hu; simp at hu; subst hu; rfl
  · intro g cap w' ho' hg hat _
    have hbb := hb.below.grown hg hb.base (fun k hk => (hb.row.lt k hk).1)
    have hba := Nat.le_trans hb.base hg.size
    refine h _ w' ⟨⟨ha.row.kept hg ?_, hbb, hba⟩, ⟨?_, hbb, hba⟩, fun k h4 h5 => ?_⟩
    · cases h4 : v4.ownBlock with
      | none => exact .inl rfl
      | some k => exact .inr (fun e => h2.d k h4 e.symm)
    · rw [List.length_append, ic_append]
      exact ho'
    · have e : g = k := by simpa [Value.ownBlock] using h5
      subst e
      rcases hat with h6 | h6
      · exact h2.d g h4 h6
      · have := (ha.row.lt g h4).2
        omega
theorem nodup_snoc {l : List Int} {x : Int} (h : l.Nodup) (hx : x ∉ l) : (l ++ [x]).Nodup := by
  rw [List.nodup_append]
  exact ⟨h, by simp, fun a ha b hb e => by simp at hb; subst hb; subst e; exact hx ha⟩
theorem mem_snoc (U : List Int) (k : Nat) (hk : k < U.length) (n : Int) : decide (n ∈ U.take (k + 1)) = (decide (n ∈ U.take k) || (U.getD k 0 == n)) := by
  rw [take_snocI U k hk, Bool.eq_iff_iff]
  simp only [decide_eq_true_eq, Bool.or_eq_true, beq_iff_eq, List.mem_append, List.mem_singleton]
  constructor
  · rintro (h | h)
    · exact .inl h
    · exact .inr h.symm
  · rintro (h | h)
    · exact .inl h
    · exact .inr h.symm
theorem Ints.shp {w : World} {v : Value} {l : List Int} (h : Ints w v l) : ∃ ao cap, v = .slice ao l.length cap ∧ (0 < l.length → ∃ (b off : Nat), ao = some ⟨b, off, none⟩ ∧ b < w.heap.size ∧ ∀ i, i < l.length → w.cell? ⟨b, off + i, none⟩ = some (.int .i64 (l.getD i 0))) := by
  rcases h with ⟨rfl, ao, cap, rfl, _⟩ | ⟨b, off, cap, rfl, h0, h1, h2⟩
  · exact ⟨ao, cap, rfl, fun h => by simp at h⟩
  · exact ⟨_, _, rfl, fun _ => ⟨b, off, rfl, h1, h2⟩⟩
theorem bth {w X Y : World} (h : Below w.heap.size w X) (hb : Below X.heap.size X Y) : Below w.heap.size w Y := h.trans (hb.mono h.size)
theorem cth {w X : World} {B i : Nat} {v : Value} (h : w.cell? ⟨B, i, none⟩ = some v) (hb : Below w.heap.size w X) : X.cell? ⟨B, i, none⟩ = some v := by
  rw [hb.cell (p := ⟨B, i, none⟩) (block_lt_of_cell h)]; exact h

set_option maxRecDepth 100000 in
set_option maxHeartbeats 4000000 in
theorem SpanCounts_walk (v : Value) (list : List Int) (w : World) (he : Env w) (hr : Ints w v list) (hmax : ∀ n ∈ list, -9223372036854775808 ≤ n ∧ n ≤ 9223372036854775807) (hl7 : list.length ≤ 17592186044416) :
    Calls Tryd.prog 7 #[v] w fun e w' => e = .returned (.bool true) ∧ Below w.heap.size w w' := by
  have HK := Lib.hid (fun X (hX : Below w.heap.size w X) => (known_any X (he.on hX)).mono fun e w' ⟨p, q⟩ => (⟨p, hX.trans (q.mono hX.size)⟩ : e = Ending.returned (.bool true) ∧ Below w.heap.size w w'))
  have H0 := Lib.hid hr
  obtain ⟨ao, cap, hv, hcs⟩ := hr.shp
  subst hv
  have HC := Lib.hid hcs
  clear hr hcs he
  by_cases hbig : 400 < list.length
  · have hz : (400 : Int) < (list.length : Int) := by omega
    go_enter Tryd.func7, Tryd.ntmps7
    go_wp2_with fail
    go_ret
    exact ⟨rfl, Below.refl _ _⟩
  · have hz : ¬ (400 : Int) < (list.length : Int) := by omega
    have HL := Lib.hid (least_any _ list w H0.out (by omega))
    have hll : (leastL list).length ≤ 400 := by (have h1 := tog_length (l := ones list); have h2 := ones_length list; unfold leastL; omega)
    go_enter Tryd.func7, Tryd.ntmps7
    go_wp2_with fail
    refine HL.out.mono ?_
    rintro e w1 ⟨vl, rfl, ho1⟩
    have HO1 := Lib.hid ho1
    have HR1 := Lib.hid (ho1.rgs (by omega))
    obtain ⟨aol, capl, hvl, hcl⟩ := (ho1.rgs (by omega)).shape
    subst hvl
    have HCL := Lib.hid hcl
    clear ho1 hcl
    go_wp2_with fail
    refine (rises_any _ (leastL list) w1 HR1.out (by omega) (leastL_form list)).mono ?_
    rintro e w2 ⟨rfl, hb2⟩
    have HB12 := Lib.hid hb2
    have HB2 := Lib.hid (bth HO1.out.below hb2)
    clear hb2
    go_wp2_with fail
    go_loopg [4, 5, 6] list.length (fun gg s4 s5 s6 wr => ∃ (i : Nat) (v4 v5 : Value) (U : List Int) (X : World), X = wr ∧ i ≤ list.length ∧ list.length - i ≤ gg ∧ s6 = .int .i64 i ∧ v4 = s4 ∧ v5 = s5 ∧ TwoI w2.heap.size v4 U v5 ((list.take i).filter okN) w2 X ∧ U.length ≤ i ∧ Hid (U.Nodup ∧ ∀ x, x ∈ U ↔ x ∈ list.take i ∧ okN x = true))
    case atStart => exact ⟨0, _, _, [], _, rfl, Nat.zero_le _, by omega, rfl, rfl, rfl, ⟨OwnI.nil (Below.refl _ _) (Nat.le_refl _), OwnI.nil (Below.refl _ _) (Nat.le_refl _), fun k h => by simp [Value.ownBlock] at h⟩, by simp, Lib.hid ⟨by simp, by simp⟩⟩
    case round =>
      obtain ⟨i, v4, v5, U, X, hX, hi, hgg, rfl, hv4, hv5, htw, hUl, HU⟩ := hrel
      subst hX
      subst hv4
      subst hv5
      have HT := Lib.hid htw
      clear htw
      have HBX := Lib.hid HT.out.a.below
      by_cases hlt : i < list.length
      · have hltz : (i : Int) < (list.length : Int) := by omega
        obtain ⟨b, off, hao, hbs, hc⟩ := HC.out (by omega)
        subst hao
        have c1 := cth (cth (hc i hlt) HB2.out) HBX.out
        have hmem : list.getD i 0 ∈ list := by rw [List.getD_eq_getElem?_getD, List.getElem?_eq_getElem hlt]; exact List.getElem_mem hlt
        have HTK := Lib.hid (take_snocI list i hlt)
        have HFI := Lib.hid (filter_snoc okN list i hlt)
        have HHS := Lib.hid (has_leastL_mem list (list.getD i 0) 1 (by omega) hmem)
        have hfl : ((list.take i).filter okN).length ≤ 400 := by (have := List.length_filter_le okN (list.take i); rw [List.length_take] at this; omega)
        clear hc hmem
        generalize list.getD i 0 = n at *
        cases hok : okN n with
        | false =>
          rw [hok] at HHS
          rw [if_neg (by rw [hok]; simp), List.append_nil] at HFI
          have HU2 : Hid (U.Nodup ∧ ∀ x, x ∈ U ↔ x ∈ list.take (i + 1) ∧ okN x = true) := Lib.hid ⟨HU.out.1, fun x => by
            rw [HU.out.2 x, HTK.out, List.mem_append, List.mem_singleton]
            constructor
            · rintro ⟨h1, h2⟩; exact ⟨.inl h1, h2⟩
            · rintro ⟨h1 | h1, h2⟩
              · exact ⟨h1, h2⟩
              · subst h1; rw [hok] at h2; cases h2⟩
          by_cases n1 : 1 ≤ n
          · have n2 : ¬ n ≤ 4294967295 := by intro h; unfold okN at hok; simp at hok; omega
            clear hok
            go_wp2_with (go_at_call 9; refine (has_is false ((HR1.out.on HB12.out).on HBX.out) HHS.out).mono ?_; rintro e w5 ⟨rfl, hb5⟩)
            go_roundg (list.length - (i + 1))
            case measure => omega
            case rel => exact ⟨i + 1, _, _, U, _, rfl, by omega, by omega, by go_num, rfl, rfl, by rw [HFI.out]; exact HT.out.on hb5, by omega, HU2⟩
          · clear hok
            go_wp2_with (go_at_call 9; refine (has_is false ((HR1.out.on HB12.out).on HBX.out) HHS.out).mono ?_; rintro e w5 ⟨rfl, hb5⟩)
            go_roundg (list.length - (i + 1))
            case measure => omega
            case rel => exact ⟨i + 1, _, _, U, _, rfl, by omega, by omega, by go_num, rfl, rfl, by rw [HFI.out]; exact HT.out.on hb5, by omega, HU2⟩
        | true =>
          rw [hok] at HHS
          rw [if_pos hok] at HFI
          have hnb : 1 ≤ n ∧ n ≤ 4294967295 := by (unfold okN at hok; simpa using hok)
          obtain ⟨n1, n2⟩ := hnb
          have HOK := Lib.hid hok
          clear hok
          go_wp2_with (first | (go_at_call 9; refine (has_is true ((HR1.out.on HB12.out).on HBX.out) HHS.out).mono ?_; rintro e w5 ⟨rfl, hb5⟩; have HT5 := Lib.hid (HT.out.on hb5)) | (at_builtin; refine appT rfl _ _ rfl n HT5.out rfl rfl (by omega) ?_))
          intro v6 w6 ht6
          have HT6 := Lib.hid ht6
          clear ht6
          obtain ⟨ao4, cap4, hv4, hc4⟩ := (HT6.out.a.ints (by omega)).shp
          subst hv4
          have HC4 := Lib.hid hc4
          clear hc4
          go_wp2_with fail
          go_loopg [9, 10] U.length (fun gg s9 s10 wr => ∃ (k : Nat) (bb : Bool), w6 = wr ∧ k ≤ U.length ∧ U.length - k ≤ gg ∧ s10 = .int .i64 k ∧ s9 = .bool bb ∧ Hid (bb = decide (n ∈ U.take k)))
          case atStart => exact ⟨0, false, rfl, Nat.zero_le _, by omega, rfl, rfl, Lib.hid (by simp)⟩
          case round =>
            obtain ⟨k, bb, hw6, hk, hgg2, rfl, rfl, HBB⟩ := hrel
            subst hw6
            by_cases hlt2 : k < U.length
            · have hltz2 : (k : Int) < (U.length : Int) := by omega
              obtain ⟨b4, o4, hao4, hb4, hcc4⟩ := HC4.out (by omega)
              subst hao4
              have d4 := hcc4 k hlt2
              have HMS := Lib.hid (mem_snoc U k hlt2 n)
              clear hcc4
              generalize U.getD k 0 = x at *
              cases bb with
              | true =>
                go_wp2_with fail
                go_roundg (U.length - (k + 1))
                case measure => omega
                case rel => exact ⟨k + 1, _, rfl, by omega, by omega, by go_num, rfl, Lib.hid (by rw [HMS.out, ← HBB.out]; rfl)⟩
              | false =>
                go_wp2_with fail
                go_roundg (U.length - (k + 1))
                case measure => omega
                case rel => exact ⟨k + 1, _, rfl, by omega, by omega, by go_num, rfl, Lib.hid (by rw [HMS.out, ← HBB.out]; rfl)⟩
            · have hltz2 : ¬ (k : Int) < (U.length : Int) := by omega
              have : k = U.length := by omega
              subst this
              rw [List.take_of_length_le (Nat.le_refl _)] at HBB
              cases bb with
              | true =>
                have hin : n ∈ U := by (have := HBB.out.symm; simpa using this)
                have HU2 : Hid (U.Nodup ∧ ∀ x, x ∈ U ↔ x ∈ list.take (i + 1) ∧ okN x = true) := Lib.hid ⟨HU.out.1, fun x => by
                  rw [HTK.out, List.mem_append, List.mem_singleton]
                  constructor
                  · intro h; have := (HU.out.2 x).1 h; exact ⟨.inl this.1, this.2⟩
                  · rintro ⟨h1 | h1, h2⟩
                    · exact (HU.out.2 x).2 ⟨h1, h2⟩
                    · subst h1; exact hin⟩
                clear hin
                go_wp2_with fail
                go_roundg (list.length - (i + 1))
                case measure => omega
                case rel => exact ⟨i + 1, _, _, U, _, rfl, by omega, by omega, by go_num, rfl, rfl, by rw [HFI.out]; exact HT6.out, by omega, HU2⟩
              | false =>
                have hout : n ∉ U := by (have := HBB.out.symm; simpa using this)
                have HU2 : Hid ((U ++ [n]).Nodup ∧ ∀ x, x ∈ U ++ [n] ↔ x ∈ list.take (i + 1) ∧ okN x = true) := Lib.hid ⟨nodup_snoc HU.out.1 hout, fun x => by
                  rw [HTK.out, List.mem_append, List.mem_append, List.mem_singleton]
                  constructor
                  · rintro (h | h)
                    · have := (HU.out.2 x).1 h; exact ⟨.inl this.1, this.2⟩
                    · subst h; exact ⟨.inr rfl, HOK.out⟩
                  · rintro ⟨h1 | h1, h2⟩
                    · exact .inl ((HU.out.2 x).2 ⟨h1, h2⟩)
                    · exact .inr h1⟩
                clear hout
                go_wp2_with (at_builtin; refine appT rfl _ _ rfl n HT6.out.swap rfl rfl (by omega) ?_)
                intro v7 w7 ht7
                have HT7 := Lib.hid ht7.swap
                clear ht7
                go_wp2_with fail
                go_roundg (list.length - (i + 1))
                case measure => omega
                case rel => exact ⟨i + 1, _, _, _, _, rfl, by omega, by omega, by go_num, rfl, rfl, by rw [HFI.out]; exact HT7.out, by rw [List.length_append, List.length_singleton]; omega, HU2⟩
      · have hltz : ¬ (i : Int) < (list.length : Int) := by omega
        have : i = list.length := by omega
        subst this
        rw [List.take_of_length_le (Nat.le_refl _)] at HU HT
        have HSM := Lib.hid (sum_leastL list U HU.out.1 HU.out.2)
        have HLF := Lib.hid (leastL_form list)
        clear HU
        obtain ⟨ao4, cap4, hv4, _⟩ := (HT.out.a.ints (by omega)).shp
        subst hv4
        have HRL := Lib.hid ((HR1.out.on HB12.out).on HBX.out)
        have HBX1 := Lib.hid (bth HB12.out HBX.out)
        generalize hLL : leastL list = LL at *
        have HLL := Lib.hid hLL
        clear hLL
        go_wp2_with fail
        go_loopg [11, 12] LL.length (fun gg s11 s12 wr => ∃ (k : Nat) (sm : Int), k ≤ LL.length ∧ LL.length - k ≤ gg ∧ s12 = .int .i64 k ∧ s11 = .int .i64 sm ∧ Hid (sm = sumI (LL.take k)) ∧ Below X.heap.size X wr)
        case atStart => exact ⟨0, 0, Nat.zero_le _, by omega, rfl, rfl, Lib.hid rfl, Below.refl _ _⟩
        case round =>
          obtain ⟨k, sm, hk, hgg3, rfl, rfl, HS, hbw⟩ := hrel
          have HBW := Lib.hid hbw
          clear hbw
          have hsb := sumI_bound (l := LL.take k) (fun p hp => HLF.out.2 p (List.mem_of_mem_take hp))
          rw [← HS.out, List.length_take] at hsb
          have hsb2 : sm ≤ 4294967295 * 400 := by omega
          have hsb3 : 0 ≤ sm := hsb.1
          clear hsb
          by_cases hlt3 : k < LL.length
          · have hltz3 : (k : Int) < (LL.length : Int) := by omega
            obtain ⟨bl, ol, haol, hbl, hccl⟩ := HCL.out (by omega)
            subst haol
            obtain ⟨d1, d2⟩ := hccl k hlt3
            replace d1 := cth (cth d1 HBX1.out) HBW.out
            replace d2 := cth (cth d2 HBX1.out) HBW.out
            have hpk := HLF.out.2 (LL.getD k (0, 0)) (by rw [List.getD_eq_getElem?_getD, List.getElem?_eq_getElem hlt3]; exact List.getElem_mem hlt3)
            have HST := Lib.hid (sumI_take LL k hlt3)
            clear hccl
            generalize (LL.getD k (0, 0)).1 = x at *
            generalize (LL.getD k (0, 0)).2 = y at *
            obtain ⟨x1, xy, y1⟩ := hpk
            go_wp2_with fail
            go_quiet (fail)
            go_wp2_with fail
            go_roundg (LL.length - (k + 1))
            case measure => omega
            case rel => exact ⟨k + 1, _, by omega, by omega, by go_num, rfl, Lib.hid (by rw [HST.out, ← HS.out]; omega), below_drewN HBW.out _⟩
          · have hltz3 : ¬ (k : Int) < (LL.length : Int) := by omega
            have : k = LL.length := by omega
            subst this
            rw [List.take_of_length_le (Nat.le_refl _)] at HS
            have hsu : (sm != (U.length : Int)) = false := by (rw [HS.out, HSM.out]; simp)
            have hsu2 : sm = (U.length : Int) := by (rw [HS.out, HSM.out])
            subst hsu2
            clear hsu
            have HBE := Lib.hid (bth (bth HB2.out HBX.out) HBW.out)
            by_cases hz0 : 0 < list.length
            · have hz1 : (0 : Int) < (list.length : Int) := by omega
              obtain ⟨m, hm⟩ : ∃ m, list.length = m + 1 := ⟨list.length - 1, by omega⟩
              have hm1 : (list.length : Int) - 1 = (m : Int) := by omega
              obtain ⟨b, off, hao, hbs, hc⟩ := HC.out hz0
              subst hao
              have c1 := cth (hc m (by omega)) HBE.out
              have hla : lastI list = list.getD m 0 := by (unfold lastI; rw [hm]; rfl)
              rw [← hla] at c1
              have HLA := Lib.hid hla
              clear hla hc hm
              have HOF := Lib.hid (fun h => of_leastL list h)
              by_cases h1 : 1 ≤ lastI list
              · replace HOF := Lib.hid (HOF.out h1)
                rw [HLL.out] at HOF
                generalize lastI list = z at *
                go_wp2_with (go_at_call 19; refine (of_is (HRL.out.on HBW.out) (H0.out.on HBE.out) (by omega) (by omega) (fun n hn => (hmax n hn).2) HOF.out).mono ?_; rintro e w8 ⟨v8, rfl, ho8⟩)
                have HI8 := Lib.hid (ho8.ints (by (have := List.length_filter_le okN list; omega)))
                have HI5 := Lib.hid ((HT.out.b.ints (by (have := List.length_filter_le okN list; omega))).on (HBW.out.trans (ho8.below.mono HBW.out.size)))
                have HB8 := Lib.hid (bth HBE.out ho8.below)
                clear ho8
                go_wp2_with (go_at_call 18; refine (alike_yes HI8.out HI5.out (by (have := List.length_filter_le okN list; omega))).mono ?_; rintro e w9 ⟨rfl, hb9⟩; have HB9 := Lib.hid (bth HB8.out hb9); clear hb9)
                go_wp2_with (go_at_call 10; refine (HK.out _ HB9.out).mono ?_; rintro e w10 ⟨rfl, hb10⟩)
                go_ret
                exact ⟨rfl, hb10⟩
              · clear HOF
                generalize lastI list = z at *
                go_wp2_with (go_at_call 10; refine (HK.out _ HBE.out).mono ?_; rintro e w9 ⟨rfl, hb9⟩)
                go_ret
                exact ⟨rfl, hb9⟩
            · have hz1 : ¬ (0 : Int) < (list.length : Int) := by omega
              go_wp2_with (go_at_call 10; refine (HK.out _ HBE.out).mono ?_; rintro e w9 ⟨rfl, hb9⟩)
              go_ret
              exact ⟨rfl, hb9⟩
end Go.Proofs.YtoikjkcnekkehaaDoor
