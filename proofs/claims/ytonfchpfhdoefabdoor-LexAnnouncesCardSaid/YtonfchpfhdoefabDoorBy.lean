/- lex: what the document says is announced. -/
import Derived.Test.YtonfchpfhdoefabDoorBw
namespace Go.Proofs.YtonfchpfhdoefabDoor
open Go.RowKit

theorem results_tmp4 {fn : Func} {t u v x : Tmp} (h : fn.results = #[.tmp t, .tmp u, .tmp v, .tmp x]) (tmps : Array Value) (P : Program) (w : World) :
    (results fn tmps).run P w = .ok (.tuple #[tmps.getD t undef, tmps.getD u undef, tmps.getD v undef, tmps.getD x undef]) w := by
  simp [results, h]
/-- What begins at a place. -/
def annI (l : List UInt8) : Bool := l.head? == some 123 && annB l
def annZ (at_ : Nat) (l : List UInt8) : Int := if annI l then (at_ + annS l : Nat) else 0
def annM (l : List UInt8) : Int := if annI l then (annN l : Int) else 0
theorem annI_hit (l : List UInt8) (h : annI l = true) : annQ l = annP l ∧ annN l = annF l ∧ annS l = l.length - (annE l).length + 1 := by
  unfold annI at h
  rw [Bool.and_eq_true] at h
  unfold annQ annN annS
  rw [h.2]
  exact ⟨rfl, rfl, rfl⟩
theorem head_at (l : List UInt8) (i : Nat) : (l.drop i).head? = if i < l.length then some (bt l i) else none := by
  by_cases h : i < l.length
  · rw [if_pos h, bt_cons l i h]; rfl
  · rw [if_neg h, List.drop_of_length_le (by omega)]; rfl
theorem annR_at (l : List UInt8) (p : Nat) : annR (l.drop p) = l.drop (p + 1 + (annD (l.drop p)).length) := by
  unfold annR
  rw [List.drop_drop, Nat.add_assoc]
theorem annP_at (l : List UInt8) (p : Nat) : annP (l.drop p) = decide (p + 1 + (annD (l.drop p)).length < l.length ∧ bt l (p + 1 + (annD (l.drop p)).length) = 43) := by
  unfold annP
  rw [annR_at, head_at]
  by_cases h : p + 1 + (annD (l.drop p)).length < l.length
  · rw [if_pos h]
    by_cases h2 : bt l (p + 1 + (annD (l.drop p)).length) = 43
    · rw [h2]; simp [h]
    · simp [h2]
  · rw [if_neg h]; simp [h]
theorem annE_at (l : List UInt8) (p : Nat) (pl : Bool) (h : annP (l.drop p) = pl) : annE (l.drop p) = l.drop (p + 1 + (annD (l.drop p)).length + b2n pl) := by
  unfold annE
  rw [h, annR_at]
  cases pl with
  | true => simp [b2n]
  | false => simp [b2n]
theorem annI_at (l : List UInt8) (p : Nat) (pl : Bool) (h1 : (l.drop p).head? = some 123) (h0 : (annD (l.drop p)).length ≠ 0) (h : annP (l.drop p) = pl) : annI (l.drop p) = decide (p + 1 + (annD (l.drop p)).length + b2n pl < l.length ∧ bt l (p + 1 + (annD (l.drop p)).length + b2n pl) = 125) := by
  unfold annI annB
  rw [h1, annE_at l p pl h, head_at]
  have hd : (annD (l.drop p)).isEmpty = false := by
    cases hh : annD (l.drop p) with
    | nil => rw [hh] at h0; exact absurd rfl h0
    | cons a r => rfl
  rw [hd]
  by_cases hlt : p + 1 + (annD (l.drop p)).length + b2n pl < l.length
  · rw [if_pos hlt]
    by_cases h2 : bt l (p + 1 + (annD (l.drop p)).length + b2n pl) = 125
    · rw [h2]; simp [hlt]
    · simp [h2]
  · rw [if_neg hlt]; simp [hlt]
theorem annI_zero (l : List UInt8) (p : Nat) (h0 : (annD (l.drop p)).length = 0) : annI (l.drop p) = false := by
  unfold annI annB
  have : annD (l.drop p) = [] := List.eq_nil_of_length_eq_zero h0
  rw [this]
  simp
theorem ann_not {l : List UInt8} {p : Nat} (h : annI (l.drop p) = false) : annM (l.drop p) = 0 ∧ annZ p (l.drop p) = 0 ∧ (annI (l.drop p) && annQ (l.drop p)) = false := by
  unfold annM annZ
  rw [h]
  exact ⟨rfl, rfl, rfl⟩
theorem ann_is {l : List UInt8} {p : Nat} {pl : Bool} (h : annI (l.drop p) = true) (hp : annP (l.drop p) = pl) (hlt : p + 1 + (annD (l.drop p)).length + b2n pl < l.length) : annM (l.drop p) = annF (l.drop p) ∧ annZ p (l.drop p) = ((p + 1 + (annD (l.drop p)).length + b2n pl + 1 : Nat) : Int) ∧ (annI (l.drop p) && annQ (l.drop p)) = pl := by
  obtain ⟨h1, h2, h3⟩ := annI_hit _ h
  unfold annM annZ
  rw [h, if_pos rfl, if_pos rfl, h1, h2, h3, hp, annE_at l p pl hp]
  refine ⟨rfl, ?_, by simp⟩
  rw [List.length_drop, List.length_drop]
  congr 1
  omega
set_option maxRecDepth 100000 in
set_option maxHeartbeats 8000000 in
theorem rann_any (s : ByteArray) (p : Nat) (w : World) (hp : p < s.size) (hs : s.size ≤ 140737488355328) :
    Calls Tryd.prog 47 #[.string s, .int .i64 p] w fun e w' => e = .returned (.tuple #[.int .i64 (annM ((L s).drop p)), .bool (annI ((L s).drop p) && annQ ((L s).drop p)), .int .i64 (annZ p ((L s).drop p)), .bool (annI ((L s).drop p))]) ∧ w' = w := by
  have hll := L_length s
  have ea := get_btx s p hp
  have hp0 : (0 : Int) ≤ (p : Int) := by omega
  have hpz : (p : Int) < (s.size : Int) := by omega
  have hpg : ¬ (p : Int) ≥ (s.size : Int) := by omega
  have hhead : ((L s).drop p).head? = some (bt (L s) p) := by rw [bt_cons (L s) p (by omega)]; rfl
  have h256 := bt_lt (L s) p
  by_cases hc : bt (L s) p = 123
  · have hcz : ((bt (L s) p).toNat : Int) = 123 := by rw [hc]; rfl
    rw [hc] at hhead
    obtain ⟨d, hdd⟩ : ∃ d, d = (annD ((L s).drop p)).length := ⟨_, rfl⟩
    have hd := annD_len ((L s).drop p) (by rw [List.length_drop]; omega)
    rw [← hdd, List.length_drop, hll] at hd
    have HP := Lib.hid (annP_at (L s) p)
    have HNO := Lib.hid (fun h => ann_not (l := L s) (p := p) h)
    have HIS := Lib.hid (fun (pl : Bool) h1 h2 h3 => ann_is (l := L s) (p := p) (pl := pl) h1 h2 h3)
    have HIA := Lib.hid (fun (pl : Bool) h1 h2 => annI_at (L s) p pl hhead h1 h2)
    have HI0 := Lib.hid (annI_zero (L s) p)
    rw [← hdd] at HP HIS HIA HI0
    rw [hll] at HP HIS HIA
    have HDD := Lib.hid hdd
    have HEA := Lib.hid ea
    clear hhead hc hdd
    generalize hcc : bt (L s) p = c at *
    clear hcc
    go_enter Tryd.func47, Tryd.ntmps47
    go_wp2_with fail
    go_loop [8, 9] (fun a b => ∃ k : Nat, k ≤ d ∧ a = .int .i64 (p + 1 + k : Nat) ∧ b = .int .i64 (((annD ((L s).drop p)).take k).foldl capN 0 : Nat)) (fun a _ => s.size - (intOf a).toNat)
    case atStart => exact ⟨0, Nat.zero_le _, by go_num, rfl⟩
    case round =>
      clear ea
      obtain ⟨k, hk, rfl, rfl⟩ := hrel
      by_cases hlt : k < d
      · have hdd := HDD.out
        have hin := tw_in (p := isDig) (r := ((L s).drop p).drop 1) (k := k) (by rw [hdd] at hlt; exact hlt)
        rw [bt_drop, bt_drop] at hin
        have hsz : p + 1 + k < s.size := by omega
        have ea := get_btx s (p + 1 + k) hsz
        have HF : Hid (((annD ((L s).drop p)).take (k + 1)).foldl capN 0 = capN (((annD ((L s).drop p)).take k).foldl capN 0) (bt (L s) (p + 1 + k))) := Lib.hid (by
          rw [fold_snoc _ _ _ _ (by omega)]
          unfold annD
          rw [tw_bt (by rw [hdd] at hlt; exact hlt), bt_drop, bt_drop, ← Nat.add_assoc])
        have hcap := cap_le ((annD ((L s).drop p)).take k) 0 (by omega)
        have hD := Lib.hid (fun W => rdigit_any (bt (L s) (p + 1 + k)) W)
        have hg := hin.2
        rw [← Nat.add_assoc] at hg
        rw [hg] at hD
        rw [isDig_iff] at hg
        have HX : Hid (capN (((annD ((L s).drop p)).take k).foldl capN 0) (bt (L s) (p + 1 + k)) = min (((annD ((L s).drop p)).take k).foldl capN 0 * 10 + ((bt (L s) (p + 1 + k)).toNat - 48)) 4294967296) := Lib.hid rfl
        generalize ((annD ((L s).drop p)).take k).foldl capN 0 = n at *
        generalize bt (L s) (p + 1 + k) = c2 at *
        have hc1 := hg.1
        have hc2 := hg.2
        obtain ⟨q, hq⟩ : ∃ q : Nat, c2.toNat = q + 48 := ⟨c2.toNat - 48, by omega⟩
        have hq9 : q ≤ 9 := by omega
        have hks : ((p + 1 + k : Nat) : Int) < (s.size : Int) := by omega
        have hks0 : (0 : Int) ≤ ((p + 1 + k : Nat) : Int) := by omega
        rw [hq, show ((q + 48 : Nat) : Int) = (q : Int) + 48 by omega] at hD
        rw [hq, show q + 48 - 48 = q by omega] at HX
        clear hin hg hdd
        go_wp2_with (go_at_call 71; with_reducible refine (hD.out _).mono ?_; rintro e w' ⟨rfl, rfl⟩)
        go_round
        case rel => exact ⟨k + 1, by omega, by go_num, by rw [HF.out, HX.out]; congr 1; omega⟩
        case measure => simp [intOf]; omega
      · obtain rfl : k = d := by omega
        clear hlt
        have hfold : ((annD ((L s).drop p)).take k).foldl capN 0 = annF ((L s).drop p) := by rw [List.take_of_length_le (by have := HDD.out; omega)]; rfl
        rw [hfold]
        have hcap : annF ((L s).drop p) ≤ 4294967296 := cap_le _ 0 (by omega)
        have HNN : Hid (annI ((L s).drop p) = false → annM ((L s).drop p) = 0 ∧ annZ p ((L s).drop p) = 0 ∧ (annI ((L s).drop p) && annQ ((L s).drop p)) = false ∧ annI ((L s).drop p) = false) := Lib.hid (fun h => ⟨(HNO.out h).1, (HNO.out h).2.1, (HNO.out h).2.2, h⟩)
        clear hfold HNO
        have hi0 : (0 : Int) ≤ ((p + 1 + k : Nat) : Int) := by omega
        by_cases hz : p + 1 + k < s.size
        · have hout := tw_out (p := isDig) (r := ((L s).drop p).drop 1) (by have := HDD.out; unfold annD at this; rw [List.length_drop, List.length_drop, hll]; omega)
          rw [bt_drop, bt_drop, show (List.takeWhile isDig (((L s).drop p).drop 1)).length = k from HDD.out.symm, ← Nat.add_assoc] at hout
          have ea := get_btx s (p + 1 + k) hz
          have hD := Lib.hid (fun W => rdigit_any (bt (L s) (p + 1 + k)) W)
          rw [hout] at hD
          have h256b := bt_lt (L s) (p + 1 + k)
          have hiz : ((p + 1 + k : Nat) : Int) < (s.size : Int) := by omega
          have hig : ¬ ((p + 1 + k : Nat) : Int) ≥ (s.size : Int) := by omega
          clear hout
          by_cases h0 : k = 0
          · have HV := Lib.hid (HNN.out (HI0.out h0))
            subst h0
            clear HP HIS HIA HI0 HDD HNN
            generalize bt (L s) (p + 1 + 0) = c2 at *
            generalize annF ((L s).drop p) = n at *
            go_wp2_with (go_at_call 71; with_reducible refine (hD.out _).mono ?_; rintro e w' ⟨rfl, rfl⟩)
            (try simp only [Exit.inBlock, Exit.then])
            refine bodyPost_ret (results_tmp4 rfl _ _ _) rfl ?_
            exact ⟨by rw [HV.out.2.2.1, HV.out.1, HV.out.2.1, HV.out.2.2.2]; rfl, rfl⟩
          · have h0z : (((p + 1 + k : Nat) : Int) == (p : Int) + 1) = false := by rw [beq_eq_false_iff_ne]; omega
            by_cases h43 : bt (L s) (p + 1 + k) = 43
            · have hP : annP ((L s).drop p) = true := by rw [HP.out]; exact decide_eq_true ⟨hz, h43⟩
              have h43z : ((bt (L s) (p + 1 + k)).toNat : Int) = 43 := by rw [h43]; rfl
              rw [h43z] at hD
              have hI := HIA.out true h0 hP
              rw [show b2n true = 1 from rfl] at hI
              by_cases hz2 : p + 1 + k + 1 < s.size
              · have ea2 := get_btx s (p + 1 + k + 1) hz2
                have hiz2 : ((p + 1 + k : Nat) : Int) + 1 < (s.size : Int) := by omega
                have hig2 : ¬ ((p + 1 + k : Nat) : Int) + 1 ≥ (s.size : Int) := by omega
                have h256c := bt_lt (L s) (p + 1 + k + 1)
                by_cases h125 : bt (L s) (p + 1 + k + 1) = 125
                · have h125z : ((bt (L s) (p + 1 + k + 1)).toNat : Int) = 125 := by rw [h125]; rfl
                  rw [decide_eq_true ⟨hz2, h125⟩] at hI
                  obtain ⟨e1, e2, e3⟩ := HIS.out true hI hP hz2
                  rw [show b2n true = 1 from rfl] at e2
                  have HV : Hid (annM ((L s).drop p) = annF ((L s).drop p) ∧ annZ p ((L s).drop p) = ((p + 1 + k : Nat) : Int) + 1 + 1 ∧ (annI ((L s).drop p) && annQ ((L s).drop p)) = true ∧ annI ((L s).drop p) = true) := Lib.hid ⟨e1, by rw [e2]; omega, e3, hI⟩
                  clear HP HIS HIA HI0 HDD HNN hP hI e1 e2 e3 h43 h125 h0
                  generalize bt (L s) (p + 1 + k) = c2 at *
                  generalize bt (L s) (p + 1 + k + 1) = c3 at *
                  generalize annF ((L s).drop p) = n at *
                  go_wp2_with (go_at_call 71; with_reducible refine (hD.out _).mono ?_; rintro e w' ⟨rfl, rfl⟩)
                  (try simp only [Exit.inBlock, Exit.then])
                  refine bodyPost_ret (results_tmp4 rfl _ _ _) rfl ?_
                  exact ⟨by rw [HV.out.2.2.1, HV.out.1, HV.out.2.1, HV.out.2.2.2]; rfl, rfl⟩
                · have h125z : ¬ ((bt (L s) (p + 1 + k + 1)).toNat : Int) = 125 := fun e => h125 (UInt8.toNat_inj.1 (by have : (125 : UInt8).toNat = 125 := rfl; omega))
                  have h125y : (((bt (L s) (p + 1 + k + 1)).toNat : Int) != 125) = true := by simpa using h125z
                  clear h125z
                  rw [decide_eq_false (fun h => h125 h.2)] at hI
                  have HV := Lib.hid (HNN.out hI)
                  clear HP HIS HIA HI0 HDD HNN hP hI h43 h125 h0
                  generalize bt (L s) (p + 1 + k) = c2 at *
                  generalize bt (L s) (p + 1 + k + 1) = c3 at *
                  generalize annF ((L s).drop p) = n at *
                  go_wp2_with (go_at_call 71; with_reducible refine (hD.out _).mono ?_; rintro e w' ⟨rfl, rfl⟩)
                  (try simp only [Exit.inBlock, Exit.then])
                  refine bodyPost_ret (results_tmp4 rfl _ _ _) rfl ?_
                  exact ⟨by rw [HV.out.2.2.1, HV.out.1, HV.out.2.1, HV.out.2.2.2]; rfl, rfl⟩
              · have hiz2 : ¬ ((p + 1 + k : Nat) : Int) + 1 < (s.size : Int) := by omega
                have hig2 : ((p + 1 + k : Nat) : Int) + 1 ≥ (s.size : Int) := by omega
                rw [decide_eq_false (fun h => hz2 h.1)] at hI
                have HV := Lib.hid (HNN.out hI)
                clear HP HIS HIA HI0 HDD HNN hP hI h43 h0 hz2
                generalize bt (L s) (p + 1 + k) = c2 at *
                generalize annF ((L s).drop p) = n at *
                go_wp2_with (go_at_call 71; with_reducible refine (hD.out _).mono ?_; rintro e w' ⟨rfl, rfl⟩)
                (try simp only [Exit.inBlock, Exit.then])
                refine bodyPost_ret (results_tmp4 rfl _ _ _) rfl ?_
                exact ⟨by rw [HV.out.2.2.1, HV.out.1, HV.out.2.1, HV.out.2.2.2]; rfl, rfl⟩
            · have hP : annP ((L s).drop p) = false := by rw [HP.out]; exact decide_eq_false (fun h => h43 h.2)
              have h43z : ¬ ((bt (L s) (p + 1 + k)).toNat : Int) = 43 := fun e => h43 (UInt8.toNat_inj.1 (by have : (43 : UInt8).toNat = 43 := rfl; omega))
              have hI := HIA.out false h0 hP
              rw [show b2n false = 0 from rfl] at hI
              by_cases h125 : bt (L s) (p + 1 + k) = 125
              · have h125z : ((bt (L s) (p + 1 + k)).toNat : Int) = 125 := by rw [h125]; rfl
                rw [h125z] at hD
                rw [decide_eq_true ⟨hz, h125⟩] at hI
                obtain ⟨e1, e2, e3⟩ := HIS.out false hI hP hz
                rw [show b2n false = 0 from rfl] at e2
                have HV : Hid (annM ((L s).drop p) = annF ((L s).drop p) ∧ annZ p ((L s).drop p) = ((p + 1 + k : Nat) : Int) + 1 ∧ (annI ((L s).drop p) && annQ ((L s).drop p)) = false ∧ annI ((L s).drop p) = true) := Lib.hid ⟨e1, by rw [e2]; omega, e3, hI⟩
                clear HP HIS HIA HI0 HDD HNN hP hI e1 e2 e3 h43 h125 h0
                generalize bt (L s) (p + 1 + k) = c2 at *
                generalize annF ((L s).drop p) = n at *
                go_wp2_with (go_at_call 71; with_reducible refine (hD.out _).mono ?_; rintro e w' ⟨rfl, rfl⟩)
                (try simp only [Exit.inBlock, Exit.then])
                refine bodyPost_ret (results_tmp4 rfl _ _ _) rfl ?_
                exact ⟨by rw [HV.out.2.2.1, HV.out.1, HV.out.2.1, HV.out.2.2.2]; rfl, rfl⟩
              · have h125z : ¬ ((bt (L s) (p + 1 + k)).toNat : Int) = 125 := fun e => h125 (UInt8.toNat_inj.1 (by have : (125 : UInt8).toNat = 125 := rfl; omega))
                have h125y : (((bt (L s) (p + 1 + k)).toNat : Int) != 125) = true := by simpa using h125z
                clear h125z
                rw [decide_eq_false (fun h => h125 h.2)] at hI
                have HV := Lib.hid (HNN.out hI)
                clear HP HIS HIA HI0 HDD HNN hP hI h43 h125 h0
                generalize bt (L s) (p + 1 + k) = c2 at *
                generalize annF ((L s).drop p) = n at *
                go_wp2_with (go_at_call 71; with_reducible refine (hD.out _).mono ?_; rintro e w' ⟨rfl, rfl⟩)
                (try simp only [Exit.inBlock, Exit.then])
                refine bodyPost_ret (results_tmp4 rfl _ _ _) rfl ?_
                exact ⟨by rw [HV.out.2.2.1, HV.out.1, HV.out.2.1, HV.out.2.2.2]; rfl, rfl⟩
        · have hiz : ¬ ((p + 1 + k : Nat) : Int) < (s.size : Int) := by omega
          have hig : ((p + 1 + k : Nat) : Int) ≥ (s.size : Int) := by omega
          by_cases h0 : k = 0
          · have HV := Lib.hid (HNN.out (HI0.out h0))
            subst h0
            clear HP HIS HIA HI0 HDD HNN
            generalize annF ((L s).drop p) = n at *
            go_wp2_with fail
            (try simp only [Exit.inBlock, Exit.then])
            refine bodyPost_ret (results_tmp4 rfl _ _ _) rfl ?_
            exact ⟨by rw [HV.out.2.2.1, HV.out.1, HV.out.2.1, HV.out.2.2.2]; rfl, rfl⟩
          · have h0z : (((p + 1 + k : Nat) : Int) == (p : Int) + 1) = false := by rw [beq_eq_false_iff_ne]; omega
            have hP : annP ((L s).drop p) = false := by rw [HP.out]; exact decide_eq_false (fun h => hz h.1)
            have hI := HIA.out false h0 hP
            rw [decide_eq_false (fun h => hz h.1)] at hI
            have HV := Lib.hid (HNN.out hI)
            clear HP HIS HIA HI0 HDD HNN hP hI h0
            generalize annF ((L s).drop p) = n at *
            go_wp2_with fail
            (try simp only [Exit.inBlock, Exit.then])
            refine bodyPost_ret (results_tmp4 rfl _ _ _) rfl ?_
            exact ⟨by rw [HV.out.2.2.1, HV.out.1, HV.out.2.1, HV.out.2.2.2]; rfl, rfl⟩
  · have hI : annI ((L s).drop p) = false := by unfold annI; rw [hhead]; simp [hc]
    have hM : annM ((L s).drop p) = 0 := by unfold annM; rw [hI]; rfl
    have hZ : annZ p ((L s).drop p) = 0 := by unfold annZ; rw [hI]; rfl
    rw [hM, hZ, hI, Bool.false_and]
    have hcz : ¬ ((bt (L s) p).toNat : Int) = 123 := fun e => hc (UInt8.toNat_inj.1 (by have : (123 : UInt8).toNat = 123 := rfl; omega))
    clear hc hhead hI hM hZ
    generalize bt (L s) p = c at *
    go_enter Tryd.func47, Tryd.ntmps47
    go_wp2_with fail
    (try simp only [Exit.inBlock, Exit.then])
    refine bodyPost_ret (results_tmp4 rfl _ _ _) rfl ?_
    exact ⟨rfl, rfl⟩
end Go.Proofs.YtonfchpfhdoefabDoor
