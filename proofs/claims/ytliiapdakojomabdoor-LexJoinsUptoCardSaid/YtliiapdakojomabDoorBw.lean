/- lex, plain: announcements at the end of a line. -/
import Derived.Test.YtliiapdakojomabDoorBt
import Derived.Laws.ResultCell
import Derived.Deep.RegionWith
namespace Go.Proofs.YtliiapdakojomabDoor
open Go.RowKit

/-- Outside of quotes (0), in quotes (1), behind a \ in quotes (2). -/
def qstep (s : Nat) (c : UInt8) : Nat := if s = 0 then (if c = 34 then 1 else 0) else if s = 1 then (if c = 34 then 0 else if c = 92 then 2 else 1) else 1
def qst : List UInt8 → Nat → Nat
  | [], s => s
  | c :: r, s => qst r (qstep s c)
theorem tw_all {p : UInt8 → Bool} (r : List UInt8) : ∀ x ∈ r.takeWhile p, p x = true := by
  induction r with
  | nil => intro x hx; cases hx
  | cons a r ih =>
    intro x hx
    cases hp : p a with
    | false => rw [List.takeWhile_cons_of_neg (by simp [hp])] at hx; cases hx
    | true =>
      rw [List.takeWhile_cons_of_pos hp, List.mem_cons] at hx
      rcases hx with rfl | hx
      · exact hp
      · exact ih x hx
theorem tw_app (p : UInt8 → Bool) (r : List UInt8) : r = r.takeWhile p ++ r.drop (r.takeWhile p).length := by
  induction r with
  | nil => rfl
  | cons a r ih =>
    cases hp : p a with
    | false => rw [List.takeWhile_cons_of_neg (by simp [hp])]; rfl
    | true => rw [List.takeWhile_cons_of_pos hp]; simpa using ih
theorem bt_cons (l : List UInt8) (k : Nat) (hk : k < l.length) : l.drop k = bt l k :: l.drop (k + 1) := by
  rw [List.drop_eq_getElem_cons hk]
  unfold bt
  rw [List.getElem?_eq_getElem hk]
  rfl
def b2n (b : Bool) : Nat := if b then 1 else 0
end Go.Proofs.YtliiapdakojomabDoor

/- lex: what the document says is announced. -/
namespace Go.Proofs.YtliiapdakojomabDoor
open Go.RowKit

theorem results_tmp4 {fn : Func} {t u v x : Tmp} (h : fn.results = #[.tmp t, .tmp u, .tmp v, .tmp x]) (tmps : Array Value) (P : Program) (w : World) :
    (results fn tmps).run P w = .ok (.tuple #[tmps.getD t undef, tmps.getD u undef, tmps.getD v undef, tmps.getD x undef]) w := by
  simp [results, h]
/-- What begins at a place. -/
def annI (l : List UInt8) : Bool := l.head? == some 123 && annB l
def annZ (at_ : Nat) (l : List UInt8) : Int := if annI l then (at_ + annS l : Nat) else 0
def annM (l : List UInt8) : Int := if annI l then (annN l : Int) else 0
theorem annI_hit (l : List UInt8) (h : annI l = true) : annQ l = annP l ∧ annN l = annF l ∧ annS l = l.length - (annE l).length + 1 := by
  unfold annI at h
  rw [Bool.and_eq_true] at h
  unfold annQ annN annS
  rw [h.2]
  exact ⟨rfl, rfl, rfl⟩
theorem head_at (l : List UInt8) (i : Nat) : (l.drop i).head? = if i < l.length then some (bt l i) else none := by
  by_cases h : i < l.length
  · rw [if_pos h, bt_cons l i h]; rfl
  · rw [if_neg h, List.drop_of_length_le (by omega)]; rfl
theorem annR_at (l : List UInt8) (p : Nat) : annR (l.drop p) = l.drop (p + 1 + (annD (l.drop p)).length) := by
  unfold annR
  rw [List.drop_drop, Nat.add_assoc]
theorem annP_at (l : List UInt8) (p : Nat) : annP (l.drop p) = decide (p + 1 + (annD (l.drop p)).length < l.length ∧ bt l (p + 1 + (annD (l.drop p)).length) = 43) := by
  unfold annP
  rw [annR_at, head_at]
  by_cases h : p + 1 + (annD (l.drop p)).length < l.length
  · rw [if_pos h]
    by_cases h2 : bt l (p + 1 + (annD (l.drop p)).length) = 43
    · rw [h2]; simp [h]
    · simp [h2]
  · rw [if_neg h]; simp [h]
theorem annE_at (l : List UInt8) (p : Nat) (pl : Bool) (h : annP (l.drop p) = pl) : annE (l.drop p) = l.drop (p + 1 + (annD (l.drop p)).length + b2n pl) := by
  unfold annE
  rw [h, annR_at]
  cases pl with
  | true => simp [b2n]
  | false => simp [b2n]
theorem annI_at (l : List UInt8) (p : Nat) (pl : Bool) (h1 : (l.drop p).head? = some 123) (h0 : (annD (l.drop p)).length ≠ 0) (h : annP (l.drop p) = pl) : annI (l.drop p) = decide (p + 1 + (annD (l.drop p)).length + b2n pl < l.length ∧ bt l (p + 1 + (annD (l.drop p)).length + b2n pl) = 125) := by
  unfold annI annB
  rw [h1, annE_at l p pl h, head_at]
  have hd : (annD (l.drop p)).isEmpty = false := by
    cases hh : annD (l.drop p) with
    | nil => rw [hh] at h0; exact absurd rfl h0
    | cons a r => rfl
  rw [hd]
  by_cases hlt : p + 1 + (annD (l.drop p)).length + b2n pl < l.length
  · rw [if_pos hlt]
    by_cases h2 : bt l (p + 1 + (annD (l.drop p)).length + b2n pl) = 125
    · rw [h2]; simp [hlt]
    · simp [h2]
  · rw [if_neg hlt]; simp [hlt]
theorem annI_zero (l : List UInt8) (p : Nat) (h0 : (annD (l.drop p)).length = 0) : annI (l.drop p) = false := by
  unfold annI annB
  have : annD (l.drop p) = [] := List.eq_nil_of_length_eq_zero h0
  rw [this]
  simp
theorem ann_not {l : List UInt8} {p : Nat} (h : annI (l.drop p) = false) : annM (l.drop p) = 0 ∧ annZ p (l.drop p) = 0 ∧ (annI (l.drop p) && annQ (l.drop p)) = false := by
  unfold annM annZ
  rw [h]
  exact ⟨rfl, rfl, rfl⟩
theorem ann_is {l : List UInt8} {p : Nat} {pl : Bool} (h : annI (l.drop p) = true) (hp : annP (l.drop p) = pl) (hlt : p + 1 + (annD (l.drop p)).length + b2n pl < l.length) : annM (l.drop p) = annF (l.drop p) ∧ annZ p (l.drop p) = ((p + 1 + (annD (l.drop p)).length + b2n pl + 1 : Nat) : Int) ∧ (annI (l.drop p) && annQ (l.drop p)) = pl := by
  obtain ⟨h1, h2, h3⟩ := annI_hit _ h
  unfold annM annZ
  rw [h, if_pos rfl, if_pos rfl, h1, h2, h3, hp, annE_at l p pl hp]
  refine ⟨rfl, ?_, by simp⟩
  rw [List.length_drop, List.length_drop]
  congr 1
  omega
set_option maxRecDepth 100000 in
set_option maxHeartbeats 8000000 in
theorem rann_any (s : ByteArray) (p : Nat) (w : World) (hp : p < s.size) (hs : s.size ≤ 140737488355328) :
    Calls Tryd.prog 47 #[.string s, .int .i64 p] w fun e w' => e = .returned (.tuple #[.int .i64 (annM ((L s).drop p)), .bool (annI ((L s).drop p) && annQ ((L s).drop p)), .int .i64 (annZ p ((L s).drop p)), .bool (annI ((L s).drop p))]) ∧ w' = w := by
  have hll := L_length s
  have ea := get_btx s p hp
  have hp0 : (0 : Int) ≤ (p : Int) := by omega
  have hpz : (p : Int) < (s.size : Int) := by omega
  have hpg : ¬ (p : Int) ≥ (s.size : Int) := by omega
  have hhead : ((L s).drop p).head? = some (bt (L s) p) := by rw [bt_cons (L s) p (by omega)]; rfl
  have h256 := bt_lt (L s) p
  by_cases hc : bt (L s) p = 123
  · have hcz : ((bt (L s) p).toNat : Int) = 123 := by rw [hc]; rfl
    rw [hc] at hhead
    obtain ⟨d, hdd⟩ : ∃ d, d = (annD ((L s).drop p)).length := ⟨_, rfl⟩
    have hd := annD_len ((L s).drop p) (by rw [List.length_drop]; omega)
    rw [← hdd, List.length_drop, hll] at hd
    have HP := Lib.hid (annP_at (L s) p)
    have HNO := Lib.hid (fun h => ann_not (l := L s) (p := p) h)
    have HIS := Lib.hid (fun (pl : Bool) h1 h2 h3 => ann_is (l := L s) (p := p) (pl := pl) h1 h2 h3)
    have HIA := Lib.hid (fun (pl : Bool) h1 h2 => annI_at (L s) p pl hhead h1 h2)
    have HI0 := Lib.hid (annI_zero (L s) p)
    rw [← hdd] at HP HIS HIA HI0
    rw [hll] at HP HIS HIA
    have HDD := Lib.hid hdd
    have HEA := Lib.hid ea
    clear hhead hc hdd
    generalize hcc : bt (L s) p = c at *
    clear hcc
    go_enter Tryd.func47, Tryd.ntmps47
    go_wp2_with fail
    go_loop [8, 9] (fun a b => ∃ k : Nat, k ≤ d ∧ a = .int .i64 (p + 1 + k : Nat) ∧ b = .int .i64 (((annD ((L s).drop p)).take k).foldl capN 0 : Nat)) (fun a _ => s.size - (intOf a).toNat)
    case atStart => exact ⟨0, Nat.zero_le _, by go_num, rfl⟩
    case round =>
      clear ea
      obtain ⟨k, hk, rfl, rfl⟩ := hrel
      by_cases hlt : k < d
      · have hdd := HDD.out
        have hin := tw_in (p := isDig) (r := ((L s).drop p).drop 1) (k := k) (by rw [hdd] at hlt; exact hlt)
        rw [bt_drop, bt_drop] at hin
        have hsz : p + 1 + k < s.size := by omega
        have ea := get_btx s (p + 1 + k) hsz
        have HF : Hid (((annD ((L s).drop p)).take (k + 1)).foldl capN 0 = capN (((annD ((L s).drop p)).take k).foldl capN 0) (bt (L s) (p + 1 + k))) := Lib.hid (by
          rw [fold_snoc _ _ _ _ (by omega)]
          unfold annD
          rw [tw_bt (by rw [hdd] at hlt; exact hlt), bt_drop, bt_drop, ← Nat.add_assoc])
        have hcap := cap_le ((annD ((L s).drop p)).take k) 0 (by omega)
        have hD := Lib.hid (fun W => rdigit_any (bt (L s) (p + 1 + k)) W)
        have hg := hin.2
        rw [← Nat.add_assoc] at hg
        rw [hg] at hD
        rw [isDig_iff] at hg
        have HX : Hid (capN (((annD ((L s).drop p)).take k).foldl capN 0) (bt (L s) (p + 1 + k)) = min (((annD ((L s).drop p)).take k).foldl capN 0 * 10 + ((bt (L s) (p + 1 + k)).toNat - 48)) 4294967296) := Lib.hid rfl
        generalize ((annD ((L s).drop p)).take k).foldl capN 0 = n at *
        generalize bt (L s) (p + 1 + k) = c2 at *
        have hc1 := hg.1
        have hc2 := hg.2
        obtain ⟨q, hq⟩ : ∃ q : Nat, c2.toNat = q + 48 := ⟨c2.toNat - 48, by omega⟩
        have hq9 : q ≤ 9 := by omega
        have hks : ((p + 1 + k : Nat) : Int) < (s.size : Int) := by omega
        have hks0 : (0 : Int) ≤ ((p + 1 + k : Nat) : Int) := by omega
        rw [hq, show ((q + 48 : Nat) : Int) = (q : Int) + 48 by omega] at hD
        rw [hq, show q + 48 - 48 = q by omega] at HX
        clear hin hg hdd
        go_wp2_with (go_at_call 71; with_reducible refine (hD.out _).mono ?_; rintro e w' ⟨rfl, rfl⟩)
        go_round
        case rel => exact ⟨k + 1, by omega, by go_num, by rw [HF.out, HX.out]; congr 1; omega⟩
        case measure => simp [intOf]; omega
      · obtain rfl : k = d := by omega
        clear hlt
        have hfold : ((annD ((L s).drop p)).take k).foldl capN 0 = annF ((L s).drop p) := by rw [List.take_of_length_le (by have := HDD.out; omega)]; rfl
        rw [hfold]
        have hcap : annF ((L s).drop p) ≤ 4294967296 := cap_le _ 0 (by omega)
        have HNN : Hid (annI ((L s).drop p) = false → annM ((L s).drop p) = 0 ∧ annZ p ((L s).drop p) = 0 ∧ (annI ((L s).drop p) && annQ ((L s).drop p)) = false ∧ annI ((L s).drop p) = false) := Lib.hid (fun h => ⟨(HNO.out h).1, (HNO.out h).2.1, (HNO.out h).2.2, h⟩)
        clear hfold HNO
        have hi0 : (0 : Int) ≤ ((p + 1 + k : Nat) : Int) := by omega
        by_cases hz : p + 1 + k < s.size
        · have hout := tw_out (p := isDig) (r := ((L s).drop p).drop 1) (by have := HDD.out; unfold annD at this; rw [List.length_drop, List.length_drop, hll]; omega)
          rw [bt_drop, bt_drop, show (List.takeWhile isDig (((L s).drop p).drop 1)).length = k from HDD.out.symm, ← Nat.add_assoc] at hout
          have ea := get_btx s (p + 1 + k) hz
          have hD := Lib.hid (fun W => rdigit_any (bt (L s) (p + 1 + k)) W)
          rw [hout] at hD
          have h256b := bt_lt (L s) (p + 1 + k)
          have hiz : ((p + 1 + k : Nat) : Int) < (s.size : Int) := by omega
          have hig : ¬ ((p + 1 + k : Nat) : Int) ≥ (s.size : Int) := by omega
          clear hout
          by_cases h0 : k = 0
          · have HV := Lib.hid (HNN.out (HI0.out h0))
            subst h0
            clear HP HIS HIA HI0 HDD HNN
            generalize bt (L s) (p + 1 + 0) = c2 at *
            generalize annF ((L s).drop p) = n at *
            go_wp2_with (go_at_call 71; with_reducible refine (hD.out _).mono ?_; rintro e w' ⟨rfl, rfl⟩)
            (try simp only [Exit.inBlock, Exit.then])
            refine bodyPost_ret (results_tmp4 rfl _ _ _) rfl ?_
            exact ⟨by rw [HV.out.2.2.1, HV.out.1, HV.out.2.1, HV.out.2.2.2]; rfl, rfl⟩
          · have h0z : (((p + 1 + k : Nat) : Int) == (p : Int) + 1) = false := by rw [beq_eq_false_iff_ne]; omega
            by_cases h43 : bt (L s) (p + 1 + k) = 43
            · have hP : annP ((L s).drop p) = true := by rw [HP.out]; exact decide_eq_true ⟨hz, h43⟩
              have h43z : ((bt (L s) (p + 1 + k)).toNat : Int) = 43 := by rw [h43]; rfl
              rw [h43z] at hD
              have hI := HIA.out true h0 hP
              rw [show b2n true = 1 from rfl] at hI
              by_cases hz2 : p + 1 + k + 1 < s.size
              · have ea2 := get_btx s (p + 1 + k + 1) hz2
                have hiz2 : ((p + 1 + k : Nat) : Int) + 1 < (s.size : Int) := by omega
                have hig2 : ¬ ((p + 1 + k : Nat) : Int) + 1 ≥ (s.size : Int) := by omega
                have h256c := bt_lt (L s) (p + 1 + k + 1)
                by_cases h125 : bt (L s) (p + 1 + k + 1) = 125
                · have h125z : ((bt (L s) (p + 1 + k + 1)).toNat : Int) = 125 := by rw [h125]; rfl
                  rw [decide_eq_true ⟨hz2, h125⟩] at hI
                  obtain ⟨e1, e2, e3⟩ := HIS.out true hI hP hz2
                  rw [show b2n true = 1 from rfl] at e2
                  have HV : Hid (annM ((L s).drop p) = annF ((L s).drop p) ∧ annZ p ((L s).drop p) = ((p + 1 + k : Nat) : Int) + 1 + 1 ∧ (annI ((L s).drop p) && annQ ((L s).drop p)) = true ∧ annI ((L s).drop p) = true) := Lib.hid ⟨e1, by rw [e2]; omega, e3, hI⟩
                  clear HP HIS HIA HI0 HDD HNN hP hI e1 e2 e3 h43 h125 h0
                  generalize bt (L s) (p + 1 + k) = c2 at *
                  generalize bt (L s) (p + 1 + k + 1) = c3 at *
                  generalize annF ((L s).drop p) = n at *
                  go_wp2_with (go_at_call 71; with_reducible refine (hD.out _).mono ?_; rintro e w' ⟨rfl, rfl⟩)
                  (try simp only [Exit.inBlock, Exit.then])
                  refine bodyPost_ret (results_tmp4 rfl _ _ _) rfl ?_
                  exact ⟨by rw [HV.out.2.2.1, HV.out.1, HV.out.2.1, HV.out.2.2.2]; rfl, rfl⟩
                · have h125z : ¬ ((bt (L s) (p + 1 + k + 1)).toNat : Int) = 125 := fun e => h125 (UInt8.toNat_inj.1 (by have : (125 : UInt8).toNat = 125 := rfl; omega))
                  have h125y : (((bt (L s) (p + 1 + k + 1)).toNat : Int) != 125) = true := by simpa using h125z
                  clear h125z
                  rw [decide_eq_false (fun h => h125 h.2)] at hI
                  have HV := Lib.hid (HNN.out hI)
                  clear HP HIS HIA HI0 HDD HNN hP hI h43 h125 h0
                  generalize bt (L s) (p + 1 + k) = c2 at *
                  generalize bt (L s) (p + 1 + k + 1) = c3 at *
                  generalize annF ((L s).drop p) = n at *
                  go_wp2_with (go_at_call 71; with_reducible refine (hD.out _).mono ?_; rintro e w' ⟨rfl, rfl⟩)
                  (try simp only [Exit.inBlock, Exit.then])
                  refine bodyPost_ret (results_tmp4 rfl _ _ _) rfl ?_
                  exact ⟨by rw [HV.out.2.2.1, HV.out.1, HV.out.2.1, HV.out.2.2.2]; rfl, rfl⟩
              · have hiz2 : ¬ ((p + 1 + k : Nat) : Int) + 1 < (s.size : Int) := by omega
                have hig2 : ((p + 1 + k : Nat) : Int) + 1 ≥ (s.size : Int) := by omega
                rw [decide_eq_false (fun h => hz2 h.1)] at hI
                have HV := Lib.hid (HNN.out hI)
                clear HP HIS HIA HI0 HDD HNN hP hI h43 h0 hz2
                generalize bt (L s) (p + 1 + k) = c2 at *
                generalize annF ((L s).drop p) = n at *
                go_wp2_with (go_at_call 71; with_reducible refine (hD.out _).mono ?_; rintro e w' ⟨rfl, rfl⟩)
                (try simp only [Exit.inBlock, Exit.then])
                refine bodyPost_ret (results_tmp4 rfl _ _ _) rfl ?_
                exact ⟨by rw [HV.out.2.2.1, HV.out.1, HV.out.2.1, HV.out.2.2.2]; rfl, rfl⟩
            · have hP : annP ((L s).drop p) = false := by rw [HP.out]; exact decide_eq_false (fun h => h43 h.2)
              have h43z : ¬ ((bt (L s) (p + 1 + k)).toNat : Int) = 43 := fun e => h43 (UInt8.toNat_inj.1 (by have : (43 : UInt8).toNat = 43 := rfl; omega))
              have hI := HIA.out false h0 hP
              rw [show b2n false = 0 from rfl] at hI
              by_cases h125 : bt (L s) (p + 1 + k) = 125
              · have h125z : ((bt (L s) (p + 1 + k)).toNat : Int) = 125 := by rw [h125]; rfl
                rw [h125z] at hD
                rw [decide_eq_true ⟨hz, h125⟩] at hI
                obtain ⟨e1, e2, e3⟩ := HIS.out false hI hP hz
                rw [show b2n false = 0 from rfl] at e2
                have HV : Hid (annM ((L s).drop p) = annF ((L s).drop p) ∧ annZ p ((L s).drop p) = ((p + 1 + k : Nat) : Int) + 1 ∧ (annI ((L s).drop p) && annQ ((L s).drop p)) = false ∧ annI ((L s).drop p) = true) := Lib.hid ⟨e1, by rw [e2]; omega, e3, hI⟩
                clear HP HIS HIA HI0 HDD HNN hP hI e1 e2 e3 h43 h125 h0
                generalize bt (L s) (p + 1 + k) = c2 at *
                generalize annF ((L s).drop p) = n at *
                go_wp2_with (go_at_call 71; with_reducible refine (hD.out _).mono ?_; rintro e w' ⟨rfl, rfl⟩)
                (try simp only [Exit.inBlock, Exit.then])
                refine bodyPost_ret (results_tmp4 rfl _ _ _) rfl ?_
                exact ⟨by rw [HV.out.2.2.1, HV.out.1, HV.out.2.1, HV.out.2.2.2]; rfl, rfl⟩
              · have h125z : ¬ ((bt (L s) (p + 1 + k)).toNat : Int) = 125 := fun e => h125 (UInt8.toNat_inj.1 (by have : (125 : UInt8).toNat = 125 := rfl; omega))
                have h125y : (((bt (L s) (p + 1 + k)).toNat : Int) != 125) = true := by simpa using h125z
                clear h125z
                rw [decide_eq_false (fun h => h125 h.2)] at hI
                have HV := Lib.hid (HNN.out hI)
                clear HP HIS HIA HI0 HDD HNN hP hI h43 h125 h0
                generalize bt (L s) (p + 1 + k) = c2 at *
                generalize annF ((L s).drop p) = n at *
                go_wp2_with (go_at_call 71; with_reducible refine (hD.out _).mono ?_; rintro e w' ⟨rfl, rfl⟩)
                (try simp only [Exit.inBlock, Exit.then])
                refine bodyPost_ret (results_tmp4 rfl _ _ _) rfl ?_
                exact ⟨by rw [HV.out.2.2.1, HV.out.1, HV.out.2.1, HV.out.2.2.2]; rfl, rfl⟩
        · have hiz : ¬ ((p + 1 + k : Nat) : Int) < (s.size : Int) := by omega
          have hig : ((p + 1 + k : Nat) : Int) ≥ (s.size : Int) := by omega
          by_cases h0 : k = 0
          · have HV := Lib.hid (HNN.out (HI0.out h0))
            subst h0
            clear HP HIS HIA HI0 HDD HNN
            generalize annF ((L s).drop p) = n at *
            go_wp2_with fail
            (try simp only [Exit.inBlock, Exit.then])
            refine bodyPost_ret (results_tmp4 rfl _ _ _) rfl ?_
            exact ⟨by rw [HV.out.2.2.1, HV.out.1, HV.out.2.1, HV.out.2.2.2]; rfl, rfl⟩
          · have h0z : (((p + 1 + k : Nat) : Int) == (p : Int) + 1) = false := by rw [beq_eq_false_iff_ne]; omega
            have hP : annP ((L s).drop p) = false := by rw [HP.out]; exact decide_eq_false (fun h => hz h.1)
            have hI := HIA.out false h0 hP
            rw [decide_eq_false (fun h => hz h.1)] at hI
            have HV := Lib.hid (HNN.out hI)
            clear HP HIS HIA HI0 HDD HNN hP hI h0
            generalize annF ((L s).drop p) = n at *
            go_wp2_with fail
            (try simp only [Exit.inBlock, Exit.then])
            refine bodyPost_ret (results_tmp4 rfl _ _ _) rfl ?_
            exact ⟨by rw [HV.out.2.2.1, HV.out.1, HV.out.2.1, HV.out.2.2.2]; rfl, rfl⟩
  · have hI : annI ((L s).drop p) = false := by unfold annI; rw [hhead]; simp [hc]
    have hM : annM ((L s).drop p) = 0 := by unfold annM; rw [hI]; rfl
    have hZ : annZ p ((L s).drop p) = 0 := by unfold annZ; rw [hI]; rfl
    rw [hM, hZ, hI, Bool.false_and]
    have hcz : ¬ ((bt (L s) p).toNat : Int) = 123 := fun e => hc (UInt8.toNat_inj.1 (by have : (123 : UInt8).toNat = 123 := rfl; omega))
    clear hc hhead hI hM hZ
    generalize bt (L s) p = c at *
    go_enter Tryd.func47, Tryd.ntmps47
    go_wp2_with fail
    (try simp only [Exit.inBlock, Exit.then])
    refine bodyPost_ret (results_tmp4 rfl _ _ _) rfl ?_
    exact ⟨rfl, rfl⟩
end Go.Proofs.YtliiapdakojomabDoor

/- lex, plain: a scanner's rounds, by what stands there; quotes in a line that is scanned. -/
namespace Go.Proofs.YtliiapdakojomabDoor
open Go.RowKit

theorem sc_step {l : List UInt8} {s : Sc} (hI : SInv l.length s) (hf : s.fault l = 0) :
    (bt l s.pos = 32 ∧ s.pause l = true ∧ s.step l = .go { s with pos := s.pos + 1 }) ∨
    (openerB (bt l s.pos) = true ∧ s.begun < 512 ∧ s.under.length < 12 ∧ s.step l = .go { s with pos := s.pos + 1, begun := s.begun + 1, under := s.under ++ [s.top], top := ⟨kindC (bt l s.pos), s.word l, []⟩ }) ∨
    (closerB (bt l s.pos) = true ∧ s.top.kind = kindC (bt l s.pos) ∧ ∃ u f, s.under = u ++ [f] ∧ s.step l = .go { s with pos := s.pos + 1, under := u, top := { f with kids := f.kids ++ [Wd.mk s.top.kind (S []) s.top.kids s.top.glued] } }) ∨
    (bt l s.pos = 123 ∧ annB (l.drop s.pos) = true ∧ s.begun < 512 ∧ ∃ x r, s.lits = x :: r ∧ x.size = annN (l.drop s.pos) ∧ s.step l = .go ({ s with pos := s.pos + annS (l.drop s.pos), begun := s.begun + 1, lits := r }.add (Wd.mk 3 x [] (s.word l)))) ∨
    (bt l s.pos = 34 ∧ s.begun < 512 ∧ s.step l = match quo (l.drop (s.pos + 1)) false [] 0 with
      | .bad => .err 31
      | .cut => .cut { s with pos := l.length, begun := s.begun + 1 }
      | .done t n => .go ({ s with pos := s.pos + 1 + n, begun := s.begun + 1 }.add (Wd.mk 2 (S t) [] (s.word l)))) ∨
    (wordC (bt l s.pos) = true ∧ s.begun < 512 ∧ s.step l = .go ({ s with pos := s.pos + (atomL l s.pos).length, begun := s.begun + 1 }.add (Wd.mk 1 (S (atomL l s.pos)) [] (s.word l)))) := by
  rw [Sc.fault_eq] at hf
  obtain ⟨n1, n2, n3, n4, n5⟩ := no_fault hf
  have hb512 : begB l s.pos = true → s.begun < 512 := fun h => by
    have := n1 h
    rw [beq_eq_false_iff_ne] at this
    have := hI.begun
    omega
  have hbeg : begB l s.pos = if bt l s.pos == 123 then annB (l.drop s.pos) else bt l s.pos == 34 || openerB (bt l s.pos) || wordC (bt l s.pos) := rfl
  rcases step_class (bt l s.pos) with ⟨h1, _, h2, h3⟩ | ⟨h1, _, h2, h3, h4, h5, _⟩ | ⟨h1, _, h2, h3, _⟩ | ⟨h1, _, h2, h3, _, _, _, _, h4, _⟩ | ⟨h1, _, h2, h3, _, _, _, _, h4, _, h5, _⟩ | ⟨h1, _, h2, h3, _, _, _, _, h4, _, h5, _⟩
  · left
    have hc : bt l s.pos = 32 := by simpa using h1
    have hnb : begB l s.pos = false := by rw [hbeg, hc]; rfl
    refine ⟨hc, ?_, ?_⟩
    · rcases n5 with h | h | h
      · rw [hnb] at h; cases h
      · rw [h3] at h; cases h
      · exact h.2
    · unfold Sc.step
      simp only [h1, if_true]
  · right; left
    have hb : begB l s.pos = true := by rw [hbeg, h4]; exact h5
    refine ⟨h2, hb512 hb, ?_, ?_⟩
    · have := n2 h2
      rw [decide_eq_false_iff_not] at this
      omega
    · unfold Sc.step
      simp only [h1, h2, if_true, Bool.false_eq_true, if_false]
  · right; right; left
    have hk : s.top.kind = kindC (bt l s.pos) := by simpa using n3 h3
    obtain ⟨u, f, hu⟩ := hI.open hk
    refine ⟨h3, hk, u, f, hu, ?_⟩
    unfold Sc.step
    simp only [h1, h2, h3, if_true, Bool.false_eq_true, if_false, hu, List.getLast?_concat, List.dropLast_concat]
  · right; right; right; left
    have hc : bt l s.pos = 123 := by simpa using h4
    have hB : annB (l.drop s.pos) = true := by
      rcases n5 with h | h | h
      · rw [hbeg, h4] at h; exact h
      · rw [h3] at h; cases h
      · rw [h1] at h; cases h.1
    have hb : begB l s.pos = true := by rw [hbeg, h4]; exact hB
    have hfit := n4 h4 hb
    cases hl : s.lits with
    | nil => rw [hl] at hfit; cases hfit
    | cons x r =>
      rw [hl] at hfit
      refine ⟨hc, hB, hb512 hb, x, r, rfl, by simpa [fitB] using hfit, ?_⟩
      unfold Sc.step
      simp only [h1, h2, h3, h4, if_true, Bool.false_eq_true, if_false, hl, List.tail_cons, List.headD_cons]
  · right; right; right; right; left
    have hc : bt l s.pos = 34 := by simpa using h5
    have hb : begB l s.pos = true := by rw [hbeg, h4, h5]; rfl
    refine ⟨hc, hb512 hb, ?_⟩
    unfold Sc.step
    simp only [h1, h2, h3, h4, h5, if_true, Bool.false_eq_true, if_false]
    rfl
  · right; right; right; right; right
    have hw : begB l s.pos = true := by
      rcases n5 with h | h | h
      · exact h
      · rw [h3] at h; cases h
      · rw [h1] at h; cases h.1
    have hb := hb512 hw
    rw [hbeg, h4, h5, h2] at hw
    refine ⟨by simpa using hw, hb, ?_⟩
    unfold Sc.step
    simp only [h1, h2, h3, h4, h5, Bool.false_eq_true, if_false]
/-- Quotes that end are behind themselves. -/
theorem quo_done : ∀ (r : List UInt8) (esc : Bool) (acc : List UInt8) (n : Nat) (t : List UInt8) (m : Nat), quo r esc acc n = .done t m → ∃ k, m = n + k ∧ 0 < k ∧ k ≤ r.length ∧ qst (r.take k) (if esc then 2 else 1) = 0
  | [], _, _, _, _, _, h => by simp [quo] at h
  | c :: r, esc, acc, n, t, m, h => by
    rw [quo] at h
    split at h
    · cases h
    · rename_i hq
      simp only [Bool.not_eq_true', Bool.not_eq_false] at hq
      split at h
      · rename_i h1
        rw [Bool.and_eq_true, beq_iff_eq] at h1
        injection h with _ hm
        obtain ⟨rfl, he⟩ := h1
        have he : esc = false := by simpa using he
        subst he
        exact ⟨1, hm.symm, by omega, by simp, rfl⟩
      · rename_i h1
        split at h
        · rename_i h2
          rw [Bool.and_eq_true, beq_iff_eq] at h2
          obtain ⟨rfl, he⟩ := h2
          have he : esc = false := by simpa using he
          subst he
          obtain ⟨k, hk, hk0, hkl, hq2⟩ := quo_done r true acc (n + 1) t m h
          refine ⟨k + 1, by omega, by omega, by simp; omega, ?_⟩
          rw [List.take_succ_cons]
          exact hq2
        · rename_i h2
          obtain ⟨k, hk, hk0, hkl, hq2⟩ := quo_done r false (acc ++ [c]) (n + 1) t m h
          refine ⟨k + 1, by omega, by omega, by simp; omega, ?_⟩
          rw [List.take_succ_cons]
          show qst (r.take k) (qstep _ c) = 0
          cases esc with
          | true => exact hq2
          | false =>
            have c1 : ¬ c = 34 := fun e => h1 (by rw [e]; rfl)
            have c2 : ¬ c = 92 := fun e => h2 (by rw [e]; rfl)
            rw [show qstep (if false = true then 2 else 1) c = 1 by simp [qstep, c1, c2]]
            exact hq2
theorem annS_fit (l : List UInt8) (hB : annB l = true) : annS l ≤ l.length ∧ 0 < annS l := by
  unfold annS
  rw [if_pos hB]
  unfold annB at hB
  rw [Bool.and_eq_true, beq_iff_eq] at hB
  have hE := annE_len l
  cases he : annE l with
  | nil => rw [he] at hB; cases hB.2
  | cons a q => rw [he] at hE; simp only [List.length_cons] at hE ⊢; omega
theorem atomL_pos {l : List UInt8} {k : Nat} (hk : k < l.length) (h : wordC (bt l k) = true) : 0 < (atomL l k).length ∧ k + (atomL l k).length ≤ l.length := by
  unfold atomL
  have h1 := tw_le wordC (l.drop k)
  rw [List.length_drop] at h1
  refine ⟨?_, by omega⟩
  rw [List.drop_eq_getElem_cons hk, List.takeWhile_cons_of_pos]
  · simp
  · unfold bt at h
    rw [List.getElem?_eq_getElem hk] at h
    exact h
theorem word_ne34 {c : UInt8} (h : wordC c = true) : c ≠ 34 := by
  rintro rfl
  exact absurd h (by decide)
theorem dec_all (n : Nat) : ∀ x ∈ Lib.decDigits n, isDig x = true := by
  induction n using Nat.strongRecOn with
  | ind n ih =>
  have dig : ∀ r, r < 10 → isDig (UInt8.ofNat (48 + r)) = true := fun r hr => by
    rw [isDig_iff]
    have : (UInt8.ofNat (48 + r)).toNat = 48 + r := by rw [UInt8.toNat_ofNat']; omega
    omega
  rw [Lib.decDigits]
  split
  · intro x hx
    rw [List.mem_singleton] at hx
    rw [hx]
    exact dig _ (by assumption)
  · intro x hx
    rw [List.mem_append, List.mem_singleton] at hx
    rcases hx with hx | hx
    · exact ih (n / 10) (by omega) x hx
    · rw [hx]
      exact dig _ (by omega)
theorem dec_ne (n : Nat) : Lib.decDigits n ≠ [] := by
  rw [Lib.decDigits]
  split <;> simp
theorem dec_fold (n : Nat) (hn : n ≤ 4294967296) : (Lib.decDigits n).foldl capN 0 = n := by
  induction n using Nat.strongRecOn with
  | ind n ih =>
  have dig : ∀ r, r < 10 → (UInt8.ofNat (48 + r)).toNat - 48 = r := fun r hr => by
    have : (UInt8.ofNat (48 + r)).toNat = 48 + r := by rw [UInt8.toNat_ofNat']; omega
    omega
  rw [Lib.decDigits]
  split
  · rename_i h
    show capN 0 _ = n
    unfold capN
    rw [dig _ h]
    omega
  · rw [List.foldl_append, ih (n / 10) (by omega) (by omega)]
    show capN _ _ = n
    unfold capN
    rw [dig _ (by omega)]
    omega
theorem tw_of (d r : List UInt8) (hd : ∀ x ∈ d, isDig x = true) (hr : ∀ c q, r = c :: q → isDig c = false) : (d ++ r).takeWhile isDig = d := by
  induction d with
  | nil =>
    cases r with
    | nil => rfl
    | cons c q => rw [List.nil_append, List.takeWhile_cons_of_neg (by simp [hr c q rfl])]
  | cons a d ih =>
    rw [List.cons_append, List.takeWhile_cons_of_pos (hd a (by simp)), ih (fun x hx => hd x (by simp [hx]))]
theorem dec_small : ∀ (k n : Nat), n < 10 ^ (k + 1) → (Lib.decDigits n).length ≤ k + 1
  | 0, n, h => by rw [Lib.decDigits_one (by simpa using h)]; simp
  | k + 1, n, h => by
    rw [Lib.decDigits]
    split
    · simp
    · have := dec_small k (n / 10) (by rw [Nat.pow_succ] at h; omega)
      rw [List.length_append, List.length_singleton]
      omega
theorem word_plain (c : UInt8) : wordC c = true → (c == 32) = false ∧ openerB c = false ∧ closerB c = false ∧ (c == 123) = false ∧ (c == 34) = false :=
  all_bytes (p := fun c => wordC c = true → (c == 32) = false ∧ openerB c = false ∧ closerB c = false ∧ (c == 123) = false ∧ (c == 34) = false) (by decide +kernel) c
end Go.Proofs.YtliiapdakojomabDoor

/- lex, plain: how the document scans, list by list, against the scanner's rounds. -/
namespace Go.Proofs.YtliiapdakojomabDoor
open Go.RowKit

/-- The document's cursor; what it answers. -/
structure Cur where
  pos : Nat
  lit : Nat
  count : Nat
inductive Out where
  | err (e : Int)
  | ok (ws : List Wd) (c : Cur)
def endOf (c : UInt8) : UInt8 := if c = 40 then 41 else 93
def beginsB (l : List UInt8) (k : Nat) : Bool := wordC (bt l k) || bt l k == 34 || openerB (bt l k) || (bt l k == 123 && annB (l.drop k))
def nextB (l : List UInt8) (k : Nat) : UInt8 := if k + 1 < l.length then bt l (k + 1) else 0
def rws (l : List UInt8) (lits : List ByteArray) : Nat → Nat → UInt8 → List Wd → Bool → Cur → Out
  | 0, _, _, _, _, _ => .err 99
  | N + 1, depth, e, acc, blank, c =>
    if c.pos < l.length then
      if bt l c.pos = 32 then
        if blank || acc.isEmpty || closerB (nextB l c.pos) then .err 30 else rws l lits N depth e acc true { c with pos := c.pos + 1 }
      else if closerB (bt l c.pos) then
        if depth = 0 ∨ bt l c.pos ≠ e then .err 33 else .ok acc { c with pos := c.pos + 1 }
      else if beginsB l c.pos = false then .err 30
      else if c.count = 512 then .err 34
      else if bt l c.pos = 34 then
        match quo (l.drop (c.pos + 1)) false [] 0 with
        | .bad => .err 31
        | .cut => .err (if 0 < depth then 33 else 31)
        | .done t m => rws l lits N depth e (acc ++ [.mk 2 (S t) [] (!acc.isEmpty && !blank)]) false { c with pos := c.pos + 1 + m, count := c.count + 1 }
      else if openerB (bt l c.pos) then
        if 12 ≤ depth then .err 33
        else match rws l lits N (depth + 1) (endOf (bt l c.pos)) [] false { c with pos := c.pos + 1, count := c.count + 1 } with
          | .err k => .err k
          | .ok kids c' => rws l lits N depth e (acc ++ [.mk (kindC (bt l c.pos)) (S []) kids (!acc.isEmpty && !blank)]) false c'
      else if bt l c.pos = 123 then
        match lits.drop c.lit with
        | [] => .err 32
        | x :: _ => if x.size = annN (l.drop c.pos) then rws l lits N depth e (acc ++ [.mk 3 x [] (!acc.isEmpty && !blank)]) false { c with pos := c.pos + annS (l.drop c.pos), lit := c.lit + 1, count := c.count + 1 } else .err 32
      else rws l lits N depth e (acc ++ [.mk 1 (S (atomL l c.pos)) [] (!acc.isEmpty && !blank)]) false { c with pos := c.pos + (atomL l c.pos).length, count := c.count + 1 }
    else if 0 < depth then .err 33 else if blank then .err 30 else .ok acc c
/-- The rounds end: how many are allowed does not matter, if they are enough. -/
theorem run_enough (l : List UInt8) : ∀ (n m : Nat) (s : Sc), SInv l.length s → l.length - s.pos ≤ n → l.length - s.pos ≤ m → s.run l n = s.run l m
  | 0, m, s, _, hn, _ => by
    rw [Sc.run_end (s := s) (n := m) rfl (by omega), Sc.run_end (s := s) (n := 0) rfl (by omega)]
  | n + 1, m, s, hI, hn, hm => by
    by_cases hp : s.pos < l.length
    · obtain ⟨m, rfl⟩ : ∃ k, m = k + 1 := ⟨m - 1, by omega⟩
      by_cases hf : s.fault l = 0
      · have key : ∀ s', s.step l = .go s' → SInv l.length s' → s.pos < s'.pos → s.run l (n + 1) = s.run l (m + 1) := fun s' hs hI' hlt => by
          have h1 := Sc.run_go (n := n) rfl hp hf hs
          have h2 := Sc.run_go (n := m) rfl hp hf hs
          rw [← h1, ← h2]
          exact run_enough l n m s' hI' (by omega) (by omega)
        rcases sc_step hI hf with ⟨_, _, hs⟩ | ⟨_, hb, hu, hs⟩ | ⟨_, _, u, f, hu, hs⟩ | ⟨hc, hB, hb, x, r, hl, _, hs⟩ | ⟨hc, hb, hs⟩ | ⟨hc, hb, hs⟩
        · exact key _ hs (hI.at (s.pos + 1) hp) (Nat.lt_succ_self _)
        · exact key _ hs (hI.push (s.pos + 1) hp _ _ hb hu) (Nat.lt_succ_self _)
        · exact key _ hs (hI.pop (s.pos + 1) hp u f hu _) (Nat.lt_succ_self _)
        · have hle := annS_fit (l.drop s.pos) hB
          rw [List.length_drop] at hle
          exact key _ hs (hI.word (s.pos + annS (l.drop s.pos)) (by omega) r _ hb) (by show s.pos < s.pos + annS (l.drop s.pos); omega)
        · cases hq : quo (l.drop (s.pos + 1)) false [] 0 with
          | bad =>
            rw [hq] at hs
            rw [Sc.run_err (n := n) rfl hp hf hs, Sc.run_err (n := m) rfl hp hf hs]
          | cut =>
            rw [hq] at hs
            rw [Sc.run_cut (n := n) rfl hp hf hs, Sc.run_cut (n := m) rfl hp hf hs]
          | done t k =>
            rw [hq] at hs
            obtain ⟨j, hj, hj0, hjl, _⟩ := quo_done _ _ _ _ _ _ hq
            rw [List.length_drop] at hjl
            exact key _ hs (hI.word (s.pos + 1 + k) (by omega) s.lits _ hb) (by show s.pos < s.pos + 1 + k; omega)
        · obtain ⟨ha0, hal⟩ := atomL_pos hp hc
          exact key _ hs (hI.word (s.pos + (atomL l s.pos).length) (by omega) s.lits _ hb) (by show s.pos < s.pos + (atomL l s.pos).length; omega)
      · rw [Sc.run_fault (n := n) rfl hp hf, Sc.run_fault (n := m) rfl hp hf]
    · rw [Sc.run_end (s := s) (n := m) rfl hp, Sc.run_end (s := s) (n := n + 1) rfl hp]
/-- All rounds that are left. -/
def Sc.all (l : List UInt8) (s : Sc) : Int × List Wd := s.run l (l.length - s.pos)
theorem all_go {l : List UInt8} {s s' : Sc} (hI : SInv l.length s') (hp : s.pos < l.length) (hf : s.fault l = 0) (hs : s.step l = .go s') (hlt : s.pos < s'.pos) : s.all l = s'.all l := by
  unfold Sc.all
  obtain ⟨k, hk⟩ : ∃ k, l.length - s.pos = k + 1 := ⟨l.length - s.pos - 1, by omega⟩
  rw [hk, ← Sc.run_go (n := k) rfl hp hf hs]
  exact run_enough l k _ s' hI (by omega) (Nat.le_refl _)
theorem all_fault {l : List UInt8} {s : Sc} (hp : s.pos < l.length) (hf : s.fault l ≠ 0) : s.all l = (s.fault l, []) := by
  unfold Sc.all
  obtain ⟨k, hk⟩ : ∃ k, l.length - s.pos = k + 1 := ⟨l.length - s.pos - 1, by omega⟩
  rw [hk]
  exact Sc.run_fault rfl hp hf
end Go.Proofs.YtliiapdakojomabDoor

/- lex, plain: the document's scanner tells what the scanner's rounds tell. -/
namespace Go.Proofs.YtliiapdakojomabDoor
open Go.RowKit

theorem quo_last : ∀ (r : List UInt8) (esc : Bool) (acc : List UInt8) (n : Nat) (t : List UInt8) (m : Nat), quo r esc acc n = .done t m → ∃ k, m = n + (k + 1) ∧ k < r.length ∧ bt r k = 34
  | [], _, _, _, _, _, h => by simp [quo] at h
  | c :: r, esc, acc, n, t, m, h => by
    rw [quo] at h
    split at h
    · cases h
    · split at h
      · rename_i h1
        injection h with ht hm
        rw [Bool.and_eq_true, beq_iff_eq] at h1
        exact ⟨0, hm.symm, by simp, h1.1⟩
      · split at h
        · obtain ⟨k, hk, hkl, hb⟩ := quo_last r true acc (n + 1) t m h
          exact ⟨k + 1, by omega, by simpa using hkl, hb⟩
        · obtain ⟨k, hk, hkl, hb⟩ := quo_last r false (acc ++ [c]) (n + 1) t m h
          exact ⟨k + 1, by omega, by simpa using hkl, hb⟩
theorem ann_last (l : List UInt8) (hB : annB l = true) : bt l (annS l - 1) = 125 := by
  have hB2 := hB
  unfold annB at hB2
  rw [Bool.and_eq_true, beq_iff_eq] at hB2
  obtain ⟨j, hj⟩ : ∃ j, annE l = l.drop j := by
    unfold annE
    split
    · exact ⟨1 + (annD l).length + 1, by unfold annR; rw [List.tail_drop]⟩
    · exact ⟨1 + (annD l).length, rfl⟩
  have hjl : j < l.length := by
    apply Classical.byContradiction
    intro h
    rw [hj, List.drop_of_length_le (by omega)] at hB2
    cases hB2.2
  have hS : annS l = j + 1 := by
    unfold annS
    rw [if_pos hB, hj, List.length_drop]
    omega
  rw [hS]
  show bt l j = 125
  rw [hj, List.head?_drop] at hB2
  unfold bt
  rw [hB2.2]
  rfl
theorem blank_not (l : List UInt8) (k : Nat) (c : UInt8) (hc : bt l (k - 1) = c) (h : c ≠ 32) : blankB l k = false := by
  unfold blankB
  rw [hc]
  have : (c == 32) = false := by simpa using h
  rw [this]
  simp
theorem begins_eq (l : List UInt8) (k : Nat) : begB l k = beginsB l k := by
  unfold begB beginsB
  by_cases h : bt l k = 123
  · rw [h]
    simp only [beq_self_eq_true, if_true, Bool.true_and]
    rw [show wordC 123 = false from rfl, show ((123 : UInt8) == 34) = false from rfl, show openerB 123 = false from rfl]
    rfl
  · have : (bt l k == 123) = false := by simpa using h
    rw [this]
    simp only [Bool.false_eq_true, if_false, Bool.false_and, Bool.or_false]
    cases wordC (bt l k) <;> cases (bt l k == 34) <;> cases openerB (bt l k) <;> rfl
/-- The document's cursor and a scanner stand at one place. -/
structure Cor (l : List UInt8) (lits : List ByteArray) (s : Sc) (depth : Nat) (e : UInt8) (acc : List Wd) (blank : Bool) (c : Cur) : Prop where
  pos : s.pos = c.pos
  cnt : s.begun = c.count
  lits : s.lits = lits.drop c.lit
  dep : s.under.length = depth
  kids : s.top.kids = acc
  bl : blankB l s.pos = blank
  fin : 0 < depth → ∀ x, closerB x = true → (x = e ↔ s.top.kind = kindC x)
def popped (lits : List ByteArray) (s : Sc) (ws : List Wd) (c : Cur) (u : List Fr) (f : Fr) : Sc := ⟨c.pos, lits.drop c.lit, c.count, u, { f with kids := f.kids ++ [Wd.mk s.top.kind (S []) ws s.top.glued] }⟩
def Good (l : List UInt8) (lits : List ByteArray) (s : Sc) (depth : Nat) (p : Nat) : Out → Prop
  | .err k => k ≠ 0 ∧ (s.all l).1 = k
  | .ok ws c => p ≤ c.pos ∧ (depth = 0 → s.all l = ((if (lits.drop c.lit).isEmpty then 0 else 32), ws)) ∧ (0 < depth → p < c.pos ∧ blankB l c.pos = false ∧ ∀ u f, s.under = u ++ [f] → SInv l.length (popped lits s ws c u f) ∧ s.all l = (popped lits s ws c u f).all l)
theorem Good.from {l : List UInt8} {lits : List ByteArray} {s s2 : Sc} {depth p p2 : Nat} {o : Out} (h : Good l lits s2 depth p2 o) (ha : s.all l = s2.all l) (hu : s.under = s2.under) (hk : s.top.kind = s2.top.kind) (hg : s.top.glued = s2.top.glued) (hp : p ≤ p2) : Good l lits s depth p o := by
  cases o with
  | err k => exact ⟨h.1, by rw [ha]; exact h.2⟩
  | ok ws c =>
    obtain ⟨h1, h2, h3⟩ := h
    refine ⟨by omega, fun h0 => by rw [ha]; exact h2 h0, fun h0 => ?_⟩
    obtain ⟨a1, a2, a3⟩ := h3 h0
    refine ⟨by omega, a2, fun u f huf => ?_⟩
    rw [hu] at huf
    obtain ⟨b1, b2⟩ := a3 u f huf
    have e : popped lits s ws c u f = popped lits s2 ws c u f := by unfold popped; rw [hk, hg]
    rw [e, ha]
    exact ⟨b1, b2⟩
theorem fault_val (l : List UInt8) (s : Sc) (b op cl br sp : Bool) (hb : begB l s.pos = b) (ho : openerB (bt l s.pos) = op) (hcl : closerB (bt l s.pos) = cl) (hbr : (bt l s.pos == 123) = br) (hsp : (bt l s.pos == 32) = sp) : s.fault l = faultV b (s.begun == 512) op (decide (12 < s.under.length + 1)) cl (s.top.kind == kindC (bt l s.pos)) br (fitB l s.pos s.lits) sp (s.pause l) := by
  rw [Sc.fault_eq, hb, ho, hcl, hbr, hsp]
/-- What a byte is, by what it begins. -/
theorem byte_facts (c : UInt8) : (c = 32 → openerB c = false ∧ closerB c = false ∧ (c == 123) = false ∧ wordC c = false ∧ (c == 34) = false) ∧ (closerB c = true → openerB c = false ∧ (c == 123) = false ∧ wordC c = false ∧ (c == 34) = false ∧ (c == 32) = false) ∧ (openerB c = true → (c == 123) = false ∧ (c == 34) = false) ∧ (c = 34 → openerB c = false ∧ (c == 123) = false) :=
  all_bytes (p := fun c => (c = 32 → openerB c = false ∧ closerB c = false ∧ (c == 123) = false ∧ wordC c = false ∧ (c == 34) = false) ∧ (closerB c = true → openerB c = false ∧ (c == 123) = false ∧ wordC c = false ∧ (c == 34) = false ∧ (c == 32) = false) ∧ (openerB c = true → (c == 123) = false ∧ (c == 34) = false) ∧ (c = 34 → openerB c = false ∧ (c == 123) = false)) (by decide +kernel) c
theorem end_kind : ∀ c x, openerB c = true → closerB x = true → (x = endOf c ↔ kindC c = kindC x) := by
  intro c x hc hx
  unfold openerB at hc
  unfold closerB at hx
  rw [Bool.or_eq_true, beq_iff_eq, beq_iff_eq] at hc hx
  rcases hc with rfl | rfl <;> rcases hx with rfl | rfl <;> decide
theorem all_err {l : List UInt8} {s : Sc} {e : Int} (hp : s.pos < l.length) (hf : s.fault l = 0) (hs : s.step l = .err e) : s.all l = (e, []) := by
  unfold Sc.all
  obtain ⟨k, hk⟩ : ∃ k, l.length - s.pos = k + 1 := ⟨l.length - s.pos - 1, by omega⟩
  rw [hk]
  exact Sc.run_err rfl hp hf hs
theorem all_cut {l : List UInt8} {s s' : Sc} (hp : s.pos < l.length) (hf : s.fault l = 0) (hs : s.step l = .cut s') : s.all l = (s'.endE l true, []) := by
  unfold Sc.all
  obtain ⟨k, hk⟩ : ∃ k, l.length - s.pos = k + 1 := ⟨l.length - s.pos - 1, by omega⟩
  rw [hk]
  exact Sc.run_cut rfl hp hf hs
theorem ref_run (l : List UInt8) (lits : List ByteArray) : ∀ (N depth : Nat) (e : UInt8) (acc : List Wd) (blank : Bool) (c : Cur) (s : Sc), Cor l lits s depth e acc blank c → SInv l.length s → l.length - c.pos < N → Good l lits s depth c.pos (rws l lits N depth e acc blank c)
  | 0, depth, e, acc, blank, c, s, _, _, hN => by omega
  | N + 1, depth, e, acc, blank, c, s, h, hI, hN => by
    have hposI := hI.pos
    have hwd : s.word l = (!acc.isEmpty && !blank) := by unfold Sc.word; rw [h.kids, h.bl]
    rw [rws]
    by_cases hp : c.pos < l.length
    · rw [if_pos hp]
      have hps : s.pos < l.length := by rw [h.pos]; exact hp
      obtain ⟨f1, f2, f3, f4⟩ := byte_facts (bt l c.pos)
      by_cases h32 : bt l c.pos = 32
      · rw [if_pos h32]
        obtain ⟨g1, g2, g3, g4, g5⟩ := f1 h32
        have hbeg : begB l s.pos = false := by
          rw [begins_eq, h.pos]
          unfold beginsB
          rw [g1, g3, g4, g5]
          rfl
        have hpa : s.pause l = !(blank || acc.isEmpty || closerB (nextB l c.pos)) := by
          unfold Sc.pause nextB
          rw [hwd, h.pos]
          by_cases hn : c.pos + 1 < l.length
          · rw [if_pos hn, decide_eq_false (by omega)]
            cases acc.isEmpty <;> cases blank <;> cases closerB (bt l (c.pos + 1)) <;> rfl
          · rw [if_neg hn, decide_eq_true (by omega)]
            cases acc.isEmpty <;> cases blank <;> rfl
        have hfv := fault_val l s false false false false true hbeg (by rw [h.pos]; exact g1) (by rw [h.pos]; exact g2) (by rw [h.pos]; exact g3) (by rw [h.pos, h32]; rfl)
        cases hcond : (blank || acc.isEmpty || closerB (nextB l c.pos)) with
        | true =>
          rw [if_pos rfl]
          rw [hpa, hcond] at hfv
          have hf30 : s.fault l = 30 := by rw [hfv]; simp [faultV]
          refine ⟨by decide, ?_⟩
          rw [all_fault hps (by rw [hf30]; decide), hf30]
        | false =>
          rw [if_neg (by decide)]
          rw [hpa, hcond] at hfv
          have hf0 : s.fault l = 0 := by rw [hfv]; simp [faultV]
          rcases sc_step hI hf0 with ⟨_, _, hs⟩ | ⟨hc, _⟩ | ⟨hc, _⟩ | ⟨hc, _⟩ | ⟨hc, _⟩ | ⟨hc, _⟩
          · have hI' := hI.at (s.pos + 1) hps
            have ih := ref_run l lits N depth e acc true { c with pos := c.pos + 1 } { s with pos := s.pos + 1 } ⟨by show s.pos + 1 = c.pos + 1; rw [h.pos], h.cnt, h.lits, h.dep, h.kids, by
              show blankB l (s.pos + 1) = true
              unfold blankB
              rw [show s.pos + 1 - 1 = s.pos from rfl, h.pos, h32]
              simp, h.fin⟩ hI' (by show l.length - (c.pos + 1) < N; omega)
            exact ih.from (all_go hI' hps hf0 hs (Nat.lt_succ_self _)) rfl rfl rfl (Nat.le_succ _)
          all_goals (rw [h.pos, h32] at hc; exact absurd hc (by decide))
      · rw [if_neg h32]
        have h32b : (bt l c.pos == 32) = false := by simpa using h32
        cases hcl : closerB (bt l c.pos) with
        | true =>
          rw [if_pos rfl]
          obtain ⟨g1, g2, g3, g4, _⟩ := f2 hcl
          have hbeg : begB l s.pos = false := by
            rw [begins_eq, h.pos]
            unfold beginsB
            rw [g1, g2, g3, g4]
            rfl
          have hfv := fault_val l s false false true false false hbeg (by rw [h.pos]; exact g1) (by rw [h.pos]; exact hcl) (by rw [h.pos]; exact g2) (by rw [h.pos]; exact h32b)
          by_cases hbad : depth = 0 ∨ bt l c.pos ≠ e
          · rw [if_pos hbad]
            have hkn : (s.top.kind == kindC (bt l s.pos)) = false := by
              rw [h.pos, beq_eq_false_iff_ne]
              intro hk
              rcases hbad with h0 | hne
              · have hu : s.under = [] := List.eq_nil_of_length_eq_zero (by rw [h.dep]; exact h0)
                rw [hI.bot hu] at hk
                unfold kindC at hk
                split at hk <;> omega
              · by_cases hd0 : depth = 0
                · have hu : s.under = [] := List.eq_nil_of_length_eq_zero (by rw [h.dep]; exact hd0)
                  rw [hI.bot hu] at hk
                  unfold kindC at hk
                  split at hk <;> omega
                · exact hne ((h.fin (by omega) _ hcl).2 hk)
            have hf33 : s.fault l = 33 := by rw [hfv, hkn]; simp [faultV]
            refine ⟨by decide, ?_⟩
            rw [all_fault hps (by rw [hf33]; decide), hf33]
          · rw [if_neg hbad]
            have hd0 : 0 < depth := by
              apply Classical.byContradiction
              intro hh
              exact hbad (.inl (by omega))
            have hxe : bt l c.pos = e := by
              apply Classical.byContradiction
              intro hh
              exact hbad (.inr hh)
            have hk : s.top.kind = kindC (bt l c.pos) := (h.fin hd0 _ hcl).1 hxe
            have hf0 : s.fault l = 0 := by
              rw [hfv, show (s.top.kind == kindC (bt l s.pos)) = true by rw [h.pos, hk]; simp]
              simp [faultV]
            refine ⟨by show c.pos ≤ c.pos + 1; omega, fun hz => by omega, fun _ => ⟨by show c.pos < c.pos + 1; omega, ?_, fun u f huf => ?_⟩⟩
            · exact blank_not l (c.pos + 1) _ rfl h32
            · rcases sc_step hI hf0 with ⟨hc, _⟩ | ⟨hc, _⟩ | ⟨_, _, u', f', hu', hs⟩ | ⟨hc, _⟩ | ⟨hc, _⟩ | ⟨hc, _⟩
              · rw [h.pos] at hc; exact absurd hc h32
              · rw [h.pos, g1] at hc; cases hc
              · rw [huf] at hu'
                obtain ⟨rfl, h2⟩ := List.append_inj' hu' rfl
                injection h2 with h2
                subst h2
                have hI' := hI.pop (s.pos + 1) hps u f huf (Wd.mk s.top.kind (S []) s.top.kids s.top.glued)
                have e1 : popped lits s acc { c with pos := c.pos + 1 } u f = { s with pos := s.pos + 1, under := u, top := { f with kids := f.kids ++ [Wd.mk s.top.kind (S []) s.top.kids s.top.glued] } } := by
                  unfold popped
                  rw [h.kids, h.pos, h.lits, h.cnt]
                rw [e1]
                exact ⟨hI', all_go hI' hps hf0 hs (Nat.lt_succ_self _)⟩
              · rw [h.pos] at hc; rw [hc] at g2; exact absurd g2 (by decide)
              · rw [h.pos] at hc; rw [hc] at g4; exact absurd g4 (by decide)
              · rw [h.pos, g3] at hc; cases hc
        | false =>
          rw [if_neg (by decide)]
          have hps2 := h.pos
          cases hbg : beginsB l c.pos with
          | false =>
            rw [if_pos rfl]
            have hbeg : begB l s.pos = false := by rw [begins_eq, h.pos]; exact hbg
            have hop : openerB (bt l s.pos) = false := by
              unfold beginsB at hbg
              rw [Bool.or_eq_false_iff, Bool.or_eq_false_iff] at hbg
              rw [h.pos]
              exact hbg.1.2
            have hfv := fault_val l s false false false _ false hbeg hop (by rw [h.pos]; exact hcl) rfl (by rw [h.pos]; exact h32b)
            have hf30 : s.fault l = 30 := by rw [hfv]; simp [faultV]
            refine ⟨by decide, ?_⟩
            rw [all_fault hps (by rw [hf30]; decide), hf30]
          | true =>
            rw [if_neg (by decide)]
            have hbeg : begB l s.pos = true := by rw [begins_eq, h.pos]; exact hbg
            have hfv := fault_val l s true _ false _ false hbeg rfl (by rw [h.pos]; exact hcl) rfl (by rw [h.pos]; exact h32b)
            by_cases h512 : c.count = 512
            · rw [if_pos h512]
              have hb5 : (s.begun == 512) = true := by rw [h.cnt, h512]; rfl
              rw [hb5] at hfv
              have hf34 : s.fault l = 34 := by rw [hfv]; simp [faultV]
              refine ⟨by decide, ?_⟩
              rw [all_fault hps (by rw [hf34]; decide), hf34]
            · rw [if_neg h512]
              have hb5 : (s.begun == 512) = false := by rw [h.cnt]; simpa using h512
              rw [hb5] at hfv
              have hlt512 : s.begun < 512 := by have := hI.begun; have := h.cnt; omega
              by_cases h34 : bt l c.pos = 34
              · rw [if_pos h34]
                obtain ⟨g1, g2⟩ := f4 h34
                rw [h.pos, g1, g2] at hfv
                have hf0 : s.fault l = 0 := by rw [hfv]; simp [faultV]
                rcases sc_step hI hf0 with ⟨hc, _⟩ | ⟨hc, _⟩ | ⟨hc, _⟩ | ⟨hc, _⟩ | ⟨_, _, hs⟩ | ⟨hc, _⟩
                · rw [h.pos, h34] at hc; exact absurd hc (by decide)
                · rw [h.pos, h34] at hc; exact absurd hc (by decide)
                · rw [h.pos, h34] at hc; exact absurd hc (by decide)
                · rw [h.pos, h34] at hc; exact absurd hc (by decide)
                · rw [h.pos] at hs
                  cases hq : quo (l.drop (c.pos + 1)) false [] 0 with
                  | bad =>
                    rw [hq] at hs
                    refine ⟨by decide, ?_⟩
                    rw [all_err hps hf0 hs]
                  | cut =>
                    rw [hq] at hs
                    have hall := all_cut hps hf0 hs
                    refine ⟨by split <;> decide, ?_⟩
                    rw [hall]
                    show ({ s with pos := l.length, begun := s.begun + 1 } : Sc).endE l true = _
                    unfold Sc.endE
                    by_cases hd0 : 0 < depth
                    · rw [if_pos hd0]
                      cases hu : s.under with
                      | nil =>
                        have := h.dep
                        rw [hu] at this
                        simp at this
                        omega
                      | cons a b => rfl
                    · rw [if_neg hd0]
                      have hu : s.under = [] := List.eq_nil_of_length_eq_zero (by rw [h.dep]; omega)
                      rw [hu]
                      rfl
                  | done t m =>
                    rw [hq] at hs
                    obtain ⟨k, hk, hkl, hb34⟩ := quo_last _ _ _ _ _ _ hq
                    rw [List.length_drop] at hkl
                    have hI' := hI.word (c.pos + 1 + m) (by omega) s.lits (Wd.mk 2 (S t) [] (s.word l)) hlt512
                    have ih := ref_run l lits N depth e (acc ++ [.mk 2 (S t) [] (!acc.isEmpty && !blank)]) false { c with pos := c.pos + 1 + m, count := c.count + 1 } ({ s with pos := c.pos + 1 + m, begun := s.begun + 1, lits := s.lits }.add (Wd.mk 2 (S t) [] (s.word l))) ⟨rfl, by show s.begun + 1 = c.count + 1; rw [h.cnt], h.lits, h.dep, by show s.top.kids ++ [_] = _; rw [h.kids, hwd], by
                      refine blank_not l (c.pos + 1 + m) 34 ?_ (by decide)
                      rw [bt_drop] at hb34
                      rw [← hb34]
                      congr 1
                      omega, h.fin⟩ hI' (by show l.length - (c.pos + 1 + m) < N; omega)
                    exact ih.from (all_go hI' hps hf0 hs (by show s.pos < c.pos + 1 + m; omega)) rfl rfl rfl (by show c.pos ≤ c.pos + 1 + m; omega)
                · rw [h.pos, h34] at hc; exact absurd hc (by decide)
              · rw [if_neg h34]
                cases hop : openerB (bt l c.pos) with
                | true =>
                  rw [if_pos rfl]
                  obtain ⟨g1, g2⟩ := f3 hop
                  rw [h.pos, hop, g1] at hfv
                  by_cases h12 : 12 ≤ depth
                  · rw [if_pos h12]
                    rw [h.dep, decide_eq_true (by omega)] at hfv
                    have hf33 : s.fault l = 33 := by rw [hfv]; simp [faultV]
                    refine ⟨by decide, ?_⟩
                    rw [all_fault hps (by rw [hf33]; decide), hf33]
                  · rw [if_neg h12]
                    rw [h.dep, decide_eq_false (by omega)] at hfv
                    have hf0 : s.fault l = 0 := by rw [hfv]; simp [faultV]
                    rcases sc_step hI hf0 with ⟨hc, _⟩ | ⟨_, _, hu, hs⟩ | ⟨hc, _⟩ | ⟨hc, _⟩ | ⟨hc, _⟩ | ⟨hc, _⟩
                    · rw [h.pos] at hc; exact absurd hc h32
                    · rw [h.pos] at hs
                      have hI1 := hI.push (c.pos + 1) (by omega) (kindC (bt l c.pos)) (s.word l) hlt512 hu
                      have hg1 := all_go hI1 hps hf0 hs (by show s.pos < c.pos + 1; omega)
                      have ih1 := ref_run l lits N (depth + 1) (endOf (bt l c.pos)) [] false { c with pos := c.pos + 1, count := c.count + 1 } { s with pos := c.pos + 1, begun := s.begun + 1, under := s.under ++ [s.top], top := ⟨kindC (bt l c.pos), s.word l, []⟩ } ⟨rfl, by show s.begun + 1 = c.count + 1; rw [h.cnt], h.lits, by show (s.under ++ [s.top]).length = depth + 1; rw [List.length_append, h.dep]; rfl, rfl, blank_not l (c.pos + 1) _ rfl h32, fun _ x hx => end_kind _ x hop hx⟩ hI1 (by show l.length - (c.pos + 1) < N; omega)
                      cases hr : rws l lits N (depth + 1) (endOf (bt l c.pos)) [] false { c with pos := c.pos + 1, count := c.count + 1 } with
                      | err k =>
                        rw [hr] at ih1
                        exact ⟨ih1.1, by rw [hg1]; exact ih1.2⟩
                      | ok kids c' =>
                        rw [hr] at ih1
                        obtain ⟨a1, _, a3⟩ := ih1
                        obtain ⟨b1, b2, b3⟩ := a3 (by omega)
                        obtain ⟨hI2, hg2⟩ := b3 s.under s.top rfl
                        have b1' : c.pos + 1 < c'.pos := b1
                        have ih2 := ref_run l lits N depth e (acc ++ [.mk (kindC (bt l c.pos)) (S []) kids (!acc.isEmpty && !blank)]) false c' (popped lits { s with pos := c.pos + 1, begun := s.begun + 1, under := s.under ++ [s.top], top := ⟨kindC (bt l c.pos), s.word l, []⟩ } kids c' s.under s.top) ⟨rfl, rfl, rfl, h.dep, by show s.top.kids ++ [Wd.mk (kindC (bt l c.pos)) (S []) kids (s.word l)] = _; rw [h.kids, hwd], b2, h.fin⟩ hI2 (by omega)
                        exact ih2.from (hg1.trans hg2) rfl rfl rfl (by omega)
                    · rw [h.pos, hcl] at hc; cases hc
                    · rw [h.pos] at hc; rw [hc] at g1; exact absurd g1 (by decide)
                    · rw [h.pos] at hc; exact absurd hc h34
                    · rw [h.pos] at hc
                      exfalso
                      have := word_plain _ hc
                      rw [hop] at this
                      cases this.2.1
                | false =>
                  rw [if_neg (by decide)]
                  rw [h.pos, hop] at hfv
                  by_cases h123 : bt l c.pos = 123
                  · rw [if_pos h123]
                    have hbr : (bt l c.pos == 123) = true := by rw [h123]; rfl
                    rw [hbr] at hfv
                    cases hl : lits.drop c.lit with
                    | nil =>
                      have hfit : fitB l c.pos s.lits = false := by rw [h.lits, hl]; rfl
                      rw [hfit] at hfv
                      have hf32 : s.fault l = 32 := by rw [hfv]; simp [faultV]
                      refine ⟨by decide, ?_⟩
                      rw [all_fault hps (by rw [hf32]; decide), hf32]
                    | cons x r =>
                      by_cases hxs : x.size = annN (l.drop c.pos)
                      · show Good l lits s depth c.pos (if x.size = annN (l.drop c.pos) then _ else _)
                        rw [if_pos hxs]
                        have hfit : fitB l c.pos s.lits = true := by rw [h.lits, hl]; show (x.size == annN (l.drop c.pos)) = true; rw [hxs]; simp
                        rw [hfit] at hfv
                        have hf0 : s.fault l = 0 := by rw [hfv]; simp [faultV]
                        rcases sc_step hI hf0 with ⟨hc, _⟩ | ⟨hc, _⟩ | ⟨hc, _⟩ | ⟨_, hB, _, x', r', hl', _, hs⟩ | ⟨hc, _⟩ | ⟨hc, _⟩
                        · rw [h.pos, h123] at hc; exact absurd hc (by decide)
                        · rw [h.pos, h123] at hc; exact absurd hc (by decide)
                        · rw [h.pos, h123] at hc; exact absurd hc (by decide)
                        · rw [h.lits, hl] at hl'
                          injection hl' with e1 e2
                          subst e1
                          subst e2
                          rw [h.pos] at hs hB
                          have hle := annS_fit (l.drop c.pos) hB
                          rw [List.length_drop] at hle
                          have hla := ann_last (l.drop c.pos) hB
                          have hI' := hI.word (c.pos + annS (l.drop c.pos)) (by omega) r (Wd.mk 3 x [] (s.word l)) hlt512
                          have ih := ref_run l lits N depth e (acc ++ [.mk 3 x [] (!acc.isEmpty && !blank)]) false { c with pos := c.pos + annS (l.drop c.pos), lit := c.lit + 1, count := c.count + 1 } ({ s with pos := c.pos + annS (l.drop c.pos), begun := s.begun + 1, lits := r }.add (Wd.mk 3 x [] (s.word l))) ⟨rfl, by show s.begun + 1 = c.count + 1; rw [h.cnt], by
                            show r = lits.drop (c.lit + 1)
                            rw [← List.tail_drop, hl]
                            rfl, h.dep, by show s.top.kids ++ [_] = _; rw [h.kids, hwd], by
                            refine blank_not l (c.pos + annS (l.drop c.pos)) 125 ?_ (by decide)
                            rw [bt_drop] at hla
                            rw [← hla]
                            congr 1
                            omega, h.fin⟩ hI' (by show l.length - (c.pos + annS (l.drop c.pos)) < N; omega)
                          exact ih.from (all_go hI' hps hf0 hs (by show s.pos < c.pos + annS (l.drop c.pos); omega)) rfl rfl rfl (by show c.pos ≤ c.pos + annS (l.drop c.pos); omega)
                        · rw [h.pos, h123] at hc; exact absurd hc (by decide)
                        · rw [h.pos, h123] at hc; exact absurd hc (by decide)
                      · show Good l lits s depth c.pos (if x.size = annN (l.drop c.pos) then _ else _)
                        rw [if_neg hxs]
                        have hfit : fitB l c.pos s.lits = false := by rw [h.lits, hl]; show (x.size == annN (l.drop c.pos)) = false; simpa using hxs
                        rw [hfit] at hfv
                        have hf32 : s.fault l = 32 := by rw [hfv]; simp [faultV]
                        refine ⟨by decide, ?_⟩
                        rw [all_fault hps (by rw [hf32]; decide), hf32]
                  · rw [if_neg h123]
                    have hbr : (bt l c.pos == 123) = false := by simpa using h123
                    rw [hbr] at hfv
                    have hf0 : s.fault l = 0 := by rw [hfv]; simp [faultV]
                    rcases sc_step hI hf0 with ⟨hc, _⟩ | ⟨hc, _⟩ | ⟨hc, _⟩ | ⟨hc, _⟩ | ⟨hc, _⟩ | ⟨hc, _, hs⟩
                    · rw [h.pos] at hc; exact absurd hc h32
                    · rw [h.pos, hop] at hc; cases hc
                    · rw [h.pos, hcl] at hc; cases hc
                    · rw [h.pos] at hc; exact absurd hc h123
                    · rw [h.pos] at hc; exact absurd hc h34
                    · rw [h.pos] at hs hc
                      obtain ⟨ha0, hal⟩ := atomL_pos hp hc
                      have hI' := hI.word (c.pos + (atomL l c.pos).length) (by omega) s.lits (Wd.mk 1 (S (atomL l c.pos)) [] (s.word l)) hlt512
                      have hlw : wordC (bt l (c.pos + (atomL l c.pos).length - 1)) = true := by
                        have := (tw_in (p := wordC) (r := l.drop c.pos) (k := (atomL l c.pos).length - 1) (by show (atomL l c.pos).length - 1 < (atomL l c.pos).length; omega)).2
                        rw [bt_drop] at this
                        rw [show c.pos + (atomL l c.pos).length - 1 = c.pos + ((atomL l c.pos).length - 1) by omega]
                        exact this
                      have ih := ref_run l lits N depth e (acc ++ [.mk 1 (S (atomL l c.pos)) [] (!acc.isEmpty && !blank)]) false { c with pos := c.pos + (atomL l c.pos).length, count := c.count + 1 } ({ s with pos := c.pos + (atomL l c.pos).length, begun := s.begun + 1, lits := s.lits }.add (Wd.mk 1 (S (atomL l c.pos)) [] (s.word l))) ⟨rfl, by show s.begun + 1 = c.count + 1; rw [h.cnt], h.lits, h.dep, by show s.top.kids ++ [_] = _; rw [h.kids, hwd], blank_not l (c.pos + (atomL l c.pos).length) _ rfl (by intro e32; rw [e32] at hlw; exact absurd hlw (by decide)), h.fin⟩ hI' (by show l.length - (c.pos + (atomL l c.pos).length) < N; omega)
                      exact ih.from (all_go hI' hps hf0 hs (by show s.pos < c.pos + (atomL l c.pos).length; omega)) rfl rfl rfl (by show c.pos ≤ c.pos + (atomL l c.pos).length; omega)
    · rw [if_neg hp]
      have hps : ¬ s.pos < l.length := by rw [h.pos]; exact hp
      have hall : s.all l = (s.endE l false, s.top.kids) := by
        unfold Sc.all
        exact Sc.run_end rfl hps
      by_cases hd0 : 0 < depth
      · rw [if_pos hd0]
        refine ⟨by decide, ?_⟩
        rw [hall]
        have hu : s.under ≠ [] := by
          intro hu
          have := h.dep
          rw [hu] at this
          simp at this
          omega
        show s.endE l false = 33
        unfold Sc.endE
        cases hh : s.under with
        | nil => exact absurd hh hu
        | cons a b => rfl
      · rw [if_neg hd0]
        have hu : s.under = [] := List.eq_nil_of_length_eq_zero (by rw [h.dep]; omega)
        cases blank with
        | true =>
          rw [if_pos rfl]
          refine ⟨by decide, ?_⟩
          rw [hall]
          show s.endE l false = 30
          unfold Sc.endE
          rw [hu, h.bl]
          rfl
        | false =>
          rw [if_neg (by decide)]
          refine ⟨Nat.le_refl _, fun _ => ?_, fun hz => absurd hz hd0⟩
          rw [hall, h.kids]
          congr 1
          unfold Sc.endE
          rw [hu, h.bl, h.lits]
          cases (lits.drop c.lit).isEmpty <;> rfl
/-- What the document's Scan answers. -/
def refE (l : List UInt8) (lits : List ByteArray) : Int := if longB l lits then 2 else match rws l lits (l.length + 1) 0 0 [] false ⟨0, 0, 0⟩ with
  | .err e => e
  | .ok _ c => if (lits.drop c.lit).isEmpty then 0 else 32
def refW (l : List UInt8) (lits : List ByteArray) : List Wd := if longB l lits then [] else match rws l lits (l.length + 1) 0 0 [] false ⟨0, 0, 0⟩ with
  | .err _ => []
  | .ok ws c => if (lits.drop c.lit).isEmpty then ws else []
theorem ref_scan (l : List UInt8) (lits : List ByteArray) : refE l lits = scanE l lits ∧ refW l lits = scanW l lits := by
  cases hlong : longB l lits with
  | true =>
    unfold refE refW scanW scanE
    rw [hlong]
    exact ⟨rfl, rfl⟩
  | false =>
    have hg := ref_run l lits (l.length + 1) 0 0 [] false ⟨0, 0, 0⟩ (Sc.new lits) ⟨rfl, rfl, by simp [Sc.new], rfl, rfl, rfl, fun h => by omega⟩ (SInv.new _ _) (by show l.length - 0 < l.length + 1; omega)
    have hall : (Sc.new lits).all l = (Sc.new lits).run l l.length := rfl
    have hE : scanE l lits = ((Sc.new lits).all l).1 := by unfold scanE; rw [hlong, hall]; rfl
    have hW : scanW l lits = if scanE l lits = 0 then ((Sc.new lits).all l).2 else [] := by unfold scanW; rw [hlong, hall]; rfl
    cases hr : rws l lits (l.length + 1) 0 0 [] false ⟨0, 0, 0⟩ with
    | err k =>
      rw [hr] at hg
      have h1 : refE l lits = k := by unfold refE; rw [hlong, hr]; rfl
      have h2 : refW l lits = [] := by unfold refW; rw [hlong, hr]; rfl
      have h3 : scanE l lits = k := by rw [hE]; exact hg.2
      rw [h1, h2, h3, hW, h3, if_neg hg.1]
      exact ⟨rfl, rfl⟩
    | ok ws c =>
      rw [hr] at hg
      have ha := hg.2.1 rfl
      rw [ha] at hE hW
      have h1 : refE l lits = if (lits.drop c.lit).isEmpty then 0 else 32 := by unfold refE; rw [hlong, hr]; rfl
      have h2 : refW l lits = if (lits.drop c.lit).isEmpty then ws else [] := by unfold refW; rw [hlong, hr]; rfl
      rw [h1, h2, hW, hE]
      cases (lits.drop c.lit).isEmpty with
      | true => exact ⟨rfl, rfl⟩
      | false => exact ⟨rfl, rfl⟩
end Go.Proofs.YtliiapdakojomabDoor

/- lex: the document's quoted. -/
namespace Go.Proofs.YtliiapdakojomabDoor
open Go.RowKit

theorem results_ccu {fn : Func} {p q u : Tmp} {ty ty2 : TypeId} (h : fn.results = #[.cell p ty, .cell q ty2, .tmp u]) (tmps : Array Value) (P : Program) (w : World) :
    (results fn tmps).run P w =
      ((asAddr (tmps.getD p undef)).run P w).andThen fun a w₁ => ((loadVar ty a).run P w₁).andThen fun v w₂ => ((asAddr (tmps.getD q undef)).run P w₂).andThen fun a2 w₃ => ((loadVar ty2 a2).run P w₃).andThen fun v2 w₄ => .ok (.tuple #[v, v2, tmps.getD u undef]) w₄ := by
  simp only [results, h]
  simp [Sem.run_bind, Result.andThen]
theorem res3 {P : Program} {fn : Func} {p q u : Tmp} {ty ty2 : TypeId} (h : fn.results = #[.cell p ty, .cell q ty2, .tmp u]) (tmps : Array Value) (w : World) (g g2 : Nat) (t t2 : TypeId) (cs cs2 : Array Value) (fr fr2 : Nat × Nat) (d d2 : TypeDesc)
    (hp : tmps.getD p undef = .pointer (some ⟨g, 0, none⟩)) (hg : w.heap[g]? = some (.cells cs t fr)) (hu : P.underlying ty = some d) (hd : (match d with | .struct _ | .array _ _ => true | _ => false) = true) (hi : (P.info? ty).map (·.size) = some cs.size)
    (hq : tmps.getD q undef = .pointer (some ⟨g2, 0, none⟩)) (hg2 : w.heap[g2]? = some (.cells cs2 t2 fr2)) (hu2 : P.underlying ty2 = some d2) (hd2 : (match d2 with | .struct _ | .array _ _ => true | _ => false) = true) (hi2 : (P.info? ty2).map (·.size) = some cs2.size) :
    (results fn tmps).run P w = .ok (.tuple #[.agg cs, .agg cs2, tmps.getD u undef]) w := by
  rw [results_ccu h, hp, hq]
  simp [asAddr, Result.andThen, run_loadVar_row w g t ty cs fr d hg hu hd hi, run_loadVar_row w g2 t2 ty2 cs2 fr2 d2 hg2 hu2 hd2 hi2]
theorem unended_any (n : Nat) (w : World) : Calls Tryd.prog 95 #[.int .i64 (n : Int)] w fun e w' => e = .returned (.int .i64 (if 0 < n then 33 else 31)) ∧ w' = w := by
  by_cases h : 0 < n
  · have hz : (0 : Int) < (n : Int) := by omega
    rw [if_pos h]
    clear h
    go_enter Tryd.func95, Tryd.ntmps95
    go_wp2_with fail
    go_ret
    exact ⟨rfl, rfl⟩
  · have hz : ¬ (0 : Int) < (n : Int) := by omega
    rw [if_neg h]
    clear h
    go_enter Tryd.func95, Tryd.ntmps95
    go_wp2_with fail
    go_ret
    exact ⟨rfl, rfl⟩
/-- A cursor as a value. -/
def cuV (line : ByteArray) (vl : Value) (p i n : Nat) : Value := .agg #[.string line, vl, .int .i64 (p : Int), .int .i64 (i : Int), .int .i64 (n : Int)]
theorem Tryd.sizeCur : (Tryd.prog.info? 81).map (·.size) = some 5 := by kernel_rfl
/-- What quoted has in memory: the cursor's box, the two results, a row of bytes. -/
structure Qs (w : World) (line : ByteArray) (vl : Value) (p i n : Nat) (v : Value) (b : List UInt8) (X : World) : Prop where
  cur : X.heap[w.heap.size]? = some (.cells #[.string line, vl, .int .i64 (p : Int), .int .i64 (i : Int), .int .i64 (n : Int)] 81 (0, 0))
  wd : X.heap[w.heap.size + 1]? = some (.cells #[.int .i64 0, .string ⟨#[]⟩, .slice none 0 0, .bool false] 33 (0, 0))
  cu2 : X.heap[w.heap.size + 1 + 1]? = some (.cells #[.string ⟨#[]⟩, .slice none 0 0, .int .i64 0, .int .i64 0, .int .i64 0] 81 (0, 0))
  row : X.ownsRow (w.heap.size + 1 + 1 + 1) 5 1 v b.length (bc b)
  below : Below w.heap.size w X
theorem Qs.size {w : World} {line : ByteArray} {vl : Value} {p i n : Nat} {v : Value} {b : List UInt8} {X : World} (h : Qs w line vl p i n v b X) : w.heap.size + 1 + 1 + 1 ≤ X.heap.size := by
  have := (Array.getElem?_eq_some_iff.1 h.cu2).1
  omega
theorem Qs.cells {w : World} {line : ByteArray} {vl : Value} {p i n : Nat} {v : Value} {b : List UInt8} {X : World} (h : Qs w line vl p i n v b X) : X.cell? ⟨w.heap.size, 0, none⟩ = some (.string line) ∧ X.cell? ⟨w.heap.size, 1, none⟩ = some vl ∧ X.cell? ⟨w.heap.size, 2, none⟩ = some (.int .i64 (p : Int)) ∧ X.cell? ⟨w.heap.size, 3, none⟩ = some (.int .i64 (i : Int)) ∧ X.cell? ⟨w.heap.size, 4, none⟩ = some (.int .i64 (n : Int)) :=
  ⟨cell_of_row _ _ 0 _ _ _ h.cur, cell_of_row _ _ 1 _ _ _ h.cur, cell_of_row _ _ 2 _ _ _ h.cur, cell_of_row _ _ 3 _ _ _ h.cur, cell_of_row _ _ 4 _ _ _ h.cur⟩
theorem Qs.at {w : World} {line : ByteArray} {vl : Value} {p i n : Nat} {v : Value} {b : List UInt8} {X : World} (h : Qs w line vl p i n v b X) (k : Nat) : X.frozen? ⟨w.heap.size, 2, none⟩ = false ∧ Qs w line vl k i n v b (X.setCell ⟨w.heap.size, 2, none⟩ (.int .i64 (k : Int))) := by
  have hs := heap_setCell_same X w.heap.size 2 _ _ (.int .i64 (k : Int)) h.cur
  refine ⟨frozen_of_row _ _ _ _ _ h.cur, ⟨hs, ?_, ?_, ?_, h.below.setCell (p := ⟨w.heap.size, 2, none⟩) (Nat.le_refl _) _⟩⟩
  · exact (heap_setCell_other X ⟨w.heap.size, 2, none⟩ (w.heap.size + 1) _ (by show w.heap.size + 1 ≠ w.heap.size; omega)).trans h.wd
  · exact (heap_setCell_other X ⟨w.heap.size, 2, none⟩ (w.heap.size + 1 + 1) _ (by show w.heap.size + 1 + 1 ≠ w.heap.size; omega)).trans h.cu2
  · refine row_block h.row (fun g hg => ?_)
    have := (row_lt h.row hg).1
    exact heap_setCell_other X ⟨w.heap.size, 2, none⟩ g _ (by show g ≠ w.heap.size; omega)
/-- b = append(b, x), the byte in a new block. -/
theorem qput {ops : Array Oper} {rest : List Oper} {o : Oper} {a : Act} {Q : Exit → Act → World → Prop} (hgd : o.guard = none) (s x : Operand)
    (ho : o.op = .call { callee := .builtin .append, args := #[s, x], argTypes := #[31, 31] })
    {w : World} {line : ByteArray} {vl : Value} {p i n : Nat} {v : Value} {b : List UInt8} {X : World} (h : Qs w line vl p i n v b X) (c : Int) (y : UInt8) (hcy : c = (y.toNat : Int)) (hs : a.eval s = v) (hx : a.eval x = .slice (some ⟨X.heap.size, 0, none⟩) 1 1) (hl : b.length ≤ 100000000)
    (hk : ∀ v' X', Qs w line vl p i n v' (b ++ [y]) X' → wpList Tryd.prog ops Q rest (a.put o.dst v') X') :
    wpList Tryd.prog ops Q (o :: rest) a (X.alloc (.cells #[.int .u8 c] 5)) := by
  subst hcy
  obtain ⟨i0, hi, hz0, hz1, hz2⟩ := info_parts Tryd.infoByte
  have hsz := h.size
  have hA := (Below.refl X.heap.size X).alloc (Nat.le_refl _) (.cells #[.int .u8 (y.toNat : Int)] 5)
  have hrow : (X.alloc (.cells #[.int .u8 (y.toNat : Int)] 5)).ownsRow (w.heap.size + 1 + 1 + 1) 5 1 v b.length (bc b) := row_block h.row (fun g hg => hA.block g (row_lt h.row hg).2)
  refine wpList_append_lies _ hgd s x 31 ho (w.heap.size + 1 + 1 + 1) 5 i0 (.int .u8 0) 1 1 Tryd.underlying31 hi hz0 hz1 hz2 rfl (by decide) v b.length (bc b) hs hrow ⟨X.heap.size, 0, none⟩ 1 1 [.int .u8 (y.toNat : Int)] hx rfl ?_ (by intro u hu; simp at hu; subst hu; rfl) (by decide) (by unfold maxLen; omega) (by omega) (by simp; omega) (X.heap.size + 1) (by simp) ?_
  · intro k u hk
    match k, hk with
    | 0, hk => simp at hk; subst hk; simp [Addr.add]
    | (k + 1), hk => simp at hk
  intro g cap w2 hrow2 hgr hgg hglt
  rw [bc_snoc] at hrow2
  have hblk : ∀ q, q < w.heap.size + 1 + 1 + 1 → w2.heap[q]? = X.heap[q]? := fun q hq => by
    rw [hgr.block q (Nat.lt_of_lt_of_le (by omega) hA.size) (fun e => by have := (row_lt h.row e.symm).1; omega), hA.block q (by omega)]
  refine hk _ w2 ⟨by rw [hblk _ (by omega)]; exact h.cur, by rw [hblk _ (by omega)]; exact h.wd, by rw [hblk _ (by omega)]; exact h.cu2, by rw [List.length_append, List.length_singleton]; exact hrow2, ?_⟩
  exact (h.below.trans (hA.mono (by omega))).grown hgr (by have := hA.size; omega) (fun k hk' => by have := (row_lt h.row hk').1; omega)
theorem drew_heap (X : World) : X.drew.heap = X.heap := rfl
theorem rset4 (X : World) (g : Nat) (x0 x1 x2 x3 : Value) (q : Nat) (h : q ≠ g) : ((((X.setCell ⟨g, 0, none⟩ x0).setCell ⟨g, 1, none⟩ x1).setCell ⟨g, 2, none⟩ x2).setCell ⟨g, 3, none⟩ x3).heap[q]? = X.heap[q]? :=
  (heap_setCell_other _ ⟨g, 3, none⟩ q x3 h).trans ((heap_setCell_other _ ⟨g, 2, none⟩ q x2 h).trans ((heap_setCell_other _ ⟨g, 1, none⟩ q x1 h).trans (heap_setCell_other _ ⟨g, 0, none⟩ q x0 h)))
theorem rset5 (X : World) (g : Nat) (x0 x1 x2 x3 x4 : Value) (q : Nat) (h : q ≠ g) : (((((X.setCell ⟨g, 0, none⟩ x0).setCell ⟨g, 1, none⟩ x1).setCell ⟨g, 2, none⟩ x2).setCell ⟨g, 3, none⟩ x3).setCell ⟨g, 4, none⟩ x4).heap[q]? = X.heap[q]? :=
  (heap_setCell_other _ ⟨g, 4, none⟩ q x4 h).trans (rset4 X g x0 x1 x2 x3 q h)
theorem rput4 (X : World) (g t : Nat) (o0 o1 o2 o3 x0 x1 x2 x3 : Value) (h : X.heap[g]? = some (.cells #[o0, o1, o2, o3] t (0, 0))) : ((((X.setCell ⟨g, 0, none⟩ x0).setCell ⟨g, 1, none⟩ x1).setCell ⟨g, 2, none⟩ x2).setCell ⟨g, 3, none⟩ x3).heap[g]? = some (.cells #[x0, x1, x2, x3] t (0, 0)) :=
  heap_setCell_same _ g 3 _ _ x3 (heap_setCell_same _ g 2 _ _ x2 (heap_setCell_same _ g 1 _ _ x1 (heap_setCell_same X g 0 _ _ x0 h)))
theorem rput5 (X : World) (g t : Nat) (o0 o1 o2 o3 o4 x0 x1 x2 x3 x4 : Value) (h : X.heap[g]? = some (.cells #[o0, o1, o2, o3, o4] t (0, 0))) : (((((X.setCell ⟨g, 0, none⟩ x0).setCell ⟨g, 1, none⟩ x1).setCell ⟨g, 2, none⟩ x2).setCell ⟨g, 3, none⟩ x3).setCell ⟨g, 4, none⟩ x4).heap[g]? = some (.cells #[x0, x1, x2, x3, x4] t (0, 0)) :=
  heap_setCell_same _ g 4 _ _ x4 (heap_setCell_same _ g 3 _ _ x3 (heap_setCell_same _ g 2 _ _ x2 (heap_setCell_same _ g 1 _ _ x1 (heap_setCell_same X g 0 _ _ x0 h))))
theorem bel4 {B : Nat} {w X : World} (h : Below B w X) (g : Nat) (hg : B ≤ g) (x0 x1 x2 x3 : Value) : Below B w ((((X.setCell ⟨g, 0, none⟩ x0).setCell ⟨g, 1, none⟩ x1).setCell ⟨g, 2, none⟩ x2).setCell ⟨g, 3, none⟩ x3) :=
  (((h.setCell (p := ⟨g, 0, none⟩) hg _).setCell (p := ⟨g, 1, none⟩) hg _).setCell (p := ⟨g, 2, none⟩) hg _).setCell (p := ⟨g, 3, none⟩) hg _
theorem bel5 {B : Nat} {w X : World} (h : Below B w X) (g : Nat) (hg : B ≤ g) (x0 x1 x2 x3 x4 : Value) : Below B w (((((X.setCell ⟨g, 0, none⟩ x0).setCell ⟨g, 1, none⟩ x1).setCell ⟨g, 2, none⟩ x2).setCell ⟨g, 3, none⟩ x3).setCell ⟨g, 4, none⟩ x4) :=
  (bel4 h g hg x0 x1 x2 x3).setCell (p := ⟨g, 4, none⟩) hg _
/-- Both results are written. -/
theorem Qs.done {w : World} {line : ByteArray} {vl : Value} {p i n : Nat} {v : Value} {b : List UInt8} {X : World} (h : Qs w line vl p i n v b X) (x0 x1 x2 x3 y0 y1 y2 y3 y4 : Value) :
    (((((((((X.setCell ⟨w.heap.size + 1, 0, none⟩ x0).setCell ⟨w.heap.size + 1, 1, none⟩ x1).setCell ⟨w.heap.size + 1, 2, none⟩ x2).setCell ⟨w.heap.size + 1, 3, none⟩ x3).setCell ⟨w.heap.size + 1 + 1, 0, none⟩ y0).setCell ⟨w.heap.size + 1 + 1, 1, none⟩ y1).setCell ⟨w.heap.size + 1 + 1, 2, none⟩ y2).setCell ⟨w.heap.size + 1 + 1, 3, none⟩ y3).setCell ⟨w.heap.size + 1 + 1, 4, none⟩ y4).heap[w.heap.size + 1]? = some (.cells #[x0, x1, x2, x3] 33 (0, 0)) ∧
    (((((((((X.setCell ⟨w.heap.size + 1, 0, none⟩ x0).setCell ⟨w.heap.size + 1, 1, none⟩ x1).setCell ⟨w.heap.size + 1, 2, none⟩ x2).setCell ⟨w.heap.size + 1, 3, none⟩ x3).setCell ⟨w.heap.size + 1 + 1, 0, none⟩ y0).setCell ⟨w.heap.size + 1 + 1, 1, none⟩ y1).setCell ⟨w.heap.size + 1 + 1, 2, none⟩ y2).setCell ⟨w.heap.size + 1 + 1, 3, none⟩ y3).setCell ⟨w.heap.size + 1 + 1, 4, none⟩ y4).heap[w.heap.size + 1 + 1]? = some (.cells #[y0, y1, y2, y3, y4] 81 (0, 0)) ∧
    Below w.heap.size w (((((((((X.setCell ⟨w.heap.size + 1, 0, none⟩ x0).setCell ⟨w.heap.size + 1, 1, none⟩ x1).setCell ⟨w.heap.size + 1, 2, none⟩ x2).setCell ⟨w.heap.size + 1, 3, none⟩ x3).setCell ⟨w.heap.size + 1 + 1, 0, none⟩ y0).setCell ⟨w.heap.size + 1 + 1, 1, none⟩ y1).setCell ⟨w.heap.size + 1 + 1, 2, none⟩ y2).setCell ⟨w.heap.size + 1 + 1, 3, none⟩ y3).setCell ⟨w.heap.size + 1 + 1, 4, none⟩ y4) := by
  have hne : w.heap.size + 1 + 1 ≠ w.heap.size + 1 := by omega
  exact ⟨(rset5 _ (w.heap.size + 1 + 1) y0 y1 y2 y3 y4 (w.heap.size + 1) hne.symm).trans (rput4 X (w.heap.size + 1) _ _ _ _ _ x0 x1 x2 x3 h.wd), rput5 _ (w.heap.size + 1 + 1) _ _ _ _ _ _ y0 y1 y2 y3 y4 ((rset4 X (w.heap.size + 1) x0 x1 x2 x3 (w.heap.size + 1 + 1) hne).trans h.cu2), bel5 (bel4 h.below (w.heap.size + 1) (by omega) x0 x1 x2 x3) (w.heap.size + 1 + 1) (by omega) y0 y1 y2 y3 y4⟩
theorem qs_start (w : World) (line : ByteArray) (a : Option Addr) (ln lc p i n : Nat) : Qs w line (.slice a ln lc) p i n (.slice none 0 0) [] (((w.alloc (.cells #[.string line, .slice a ln lc, .int .i64 (p : Int), .int .i64 (i : Int), .int .i64 (n : Int)] 81)).alloc (.cells #[.int .i64 0, .string ⟨#[]⟩, .slice none 0 0, .bool false] 33)).alloc (.cells #[.string ⟨#[]⟩, .slice none 0 0, .int .i64 0, .int .i64 0, .int .i64 0] 81)) := by
  have h0 := heap_alloc_new w (.cells #[.string line, .slice a ln lc, .int .i64 (p : Int), .int .i64 (i : Int), .int .i64 (n : Int)] 81)
  generalize hY1 : w.alloc (.cells #[.string line, .slice a ln lc, .int .i64 (p : Int), .int .i64 (i : Int), .int .i64 (n : Int)] 81) = Y1 at *
  have s1 : Y1.heap.size = w.heap.size + 1 := by rw [← hY1]; simp
  have b1 : Below w.heap.size w Y1 := by rw [← hY1]; exact (Below.refl _ _).alloc (Nat.le_refl _) _
  have h1 := heap_alloc_new Y1 (.cells #[.int .i64 0, .string ⟨#[]⟩, .slice none 0 0, .bool false] 33)
  have e1 := (Below.refl Y1.heap.size Y1).alloc (Nat.le_refl _) (.cells #[.int .i64 0, .string ⟨#[]⟩, .slice none 0 0, .bool false] 33)
  generalize hY2 : Y1.alloc (.cells #[.int .i64 0, .string ⟨#[]⟩, .slice none 0 0, .bool false] 33) = Y2 at *
  have s2 : Y2.heap.size = w.heap.size + 1 + 1 := by rw [← hY2]; simp [s1]
  have h2 := heap_alloc_new Y2 (.cells #[.string ⟨#[]⟩, .slice none 0 0, .int .i64 0, .int .i64 0, .int .i64 0] 81)
  have e2 := (Below.refl Y2.heap.size Y2).alloc (Nat.le_refl _) (.cells #[.string ⟨#[]⟩, .slice none 0 0, .int .i64 0, .int .i64 0, .int .i64 0] 81)
  rw [s1] at h1
  rw [s2] at h2
  refine ⟨?_, ?_, h2, World.ownsRow_nil _ _ _ _, (b1.trans (e1.mono (by omega))).trans (e2.mono (by omega))⟩
  · rw [e2.block _ (by omega), e1.block _ (by omega)]; exact h0
  · rw [e2.block _ (by omega)]; exact h1
/-- What quoted answers. -/
def qOut (line : ByteArray) (vl : Value) (p i n d : Nat) : Qr → Ending → Prop
  | .done t m, e => e = .returned (.tuple #[.agg #[.int .i64 2, .string (S t), .slice none 0 0, .bool false], cuV line vl (p + m) i n, .int .i64 0])
  | .bad, e => ∃ p', e = .returned (.tuple #[.agg #[.int .i64 0, .string ⟨#[]⟩, .slice none 0 0, .bool false], cuV line vl p' i n, .int .i64 31])
  | .cut, e => ∃ p', e = .returned (.tuple #[.agg #[.int .i64 0, .string ⟨#[]⟩, .slice none 0 0, .bool false], cuV line vl p' i n, .int .i64 (if 0 < d then 33 else 31)])
end Go.Proofs.YtliiapdakojomabDoor

/- lex: the document's quoted: the walk. -/
namespace Go.Proofs.YtliiapdakojomabDoor
open Go.RowKit

theorem quo_bad {c : UInt8} {r b : List UInt8} {n : Nat} (h : quotC c = false) : quo (c :: r) false b n = .bad := by
  rw [quo, h]
  rfl
theorem quo_end {r b : List UInt8} {n : Nat} : quo (34 :: r) false b n = .done b (n + 1) := by
  rw [quo]
  rfl
theorem quo_plain {c : UInt8} {r b : List UInt8} {n : Nat} (h : quotC c = true) (h1 : c ≠ 34) (h2 : c ≠ 92) : quo (c :: r) false b n = quo r false (b ++ [c]) (n + 1) := by
  rw [quo, h]
  simp [h1, h2]
theorem quo_esc {r b : List UInt8} {n : Nat} : quo (92 :: r) false b n = match r with
    | [] => .cut
    | d :: q => if slashB d then quo q false (b ++ [d]) (n + 1 + 1) else .bad := by
  have e : quo (92 :: r) false b n = quo r true b (n + 1) := by rw [quo]; rfl
  rw [e]
  cases r with
  | nil => rw [quo]
  | cons d q =>
    show quo (d :: q) true b (n + 1) = if slashB d then quo q false (b ++ [d]) (n + 1 + 1) else .bad
    rw [quo]
    cases hs : slashB d with
    | false => simp
    | true =>
      have hq : quotC d = true := by
        unfold slashB at hs
        rw [Bool.or_eq_true, beq_iff_eq, beq_iff_eq] at hs
        rcases hs with rfl | rfl <;> rfl
      rw [hq]
      simp
theorem Qs.move {w : World} {line : ByteArray} {vl : Value} {p i n : Nat} {v : Value} {b : List UInt8} {X : World} (h : Qs w line vl p i n v b X) (k : Nat) (z : Int) (hz : z = (k : Int)) : X.frozen? ⟨w.heap.size, 2, none⟩ = false ∧ Qs w line vl k i n v b (X.setCell ⟨w.heap.size, 2, none⟩ (.int .i64 z)) := by
  subst hz
  exact h.at k
theorem slash_no {y : UInt8} (h1 : ¬ (y.toNat : Int) = 34) (h2 : ¬ (y.toNat : Int) = 92) : slashB y = false := by
  cases h : slashB y with
  | false => rfl
  | true =>
    unfold slashB at h
    rw [Bool.or_eq_true, beq_iff_eq, beq_iff_eq] at h
    rcases h with rfl | rfl
    · exact absurd rfl h1
    · exact absurd rfl h2
theorem quo_esc_cons {d : UInt8} {q b : List UInt8} {n : Nat} : quo (92 :: d :: q) false b n = if slashB d then quo q false (b ++ [d]) (n + 1 + 1) else .bad := quo_esc
theorem quo_esc_nil {b : List UInt8} {n : Nat} : quo [92] false b n = .cut := quo_esc
theorem quo_nil {b : List UInt8} {n : Nat} : quo [] false b n = .cut := by rw [quo]
theorem qret {R : Ending → World → Prop} {w Y : World} {tmps : Array Value} (x0 x1 x2 x3 y0 y1 y2 y3 y4 cd : Value)
    (h1 : Y.heap[w.heap.size + 1]? = some (.cells #[x0, x1, x2, x3] 33 (0, 0))) (h2 : Y.heap[w.heap.size + 1 + 1]? = some (.cells #[y0, y1, y2, y3, y4] 81 (0, 0)))
    (h4 : tmps.getD 4 undef = .pointer (some ⟨w.heap.size + 1, 0, none⟩)) (h5 : tmps.getD 5 undef = .pointer (some ⟨w.heap.size + 1 + 1, 0, none⟩)) (h6 : tmps.getD 6 undef = cd)
    (hR : R (.returned (.tuple #[.agg #[x0, x1, x2, x3], .agg #[y0, y1, y2, y3, y4], cd])) Y.drew) : bodyPost Tryd.prog Tryd.f92 R .ret ⟨tmps, []⟩ Y.drew := by
  subst h6
  exact bodyPost_ret (res3 Tryd.results92 _ _ (w.heap.size + 1) (w.heap.size + 1 + 1) 33 81 #[x0, x1, x2, x3] #[y0, y1, y2, y3, y4] (0, 0) (0, 0) _ _ h4 h1 Tryd.underlying33 rfl Tryd.sizeWord h5 h2 Tryd.underlying81 rfl Tryd.sizeCur) rfl hR
set_option maxRecDepth 100000 in
set_option maxHeartbeats 8000000 in
theorem rquoted_any (line : ByteArray) (a : Option Addr) (ln lc : Nat) (p i n d : Nat) (w : World) (hp : p ≤ line.size) (hs : line.size ≤ 4096) :
    Calls Tryd.prog 92 #[cuV line (.slice a ln lc) p i n, .int .i64 (d : Int)] w fun e w' => qOut line (.slice a ln lc) p i n d (quo ((L line).drop p) false [] 0) e ∧ Below w.heap.size w w' := by
  have hll := L_length line
  obtain ⟨ue, hue⟩ : ∃ z : Int, z = if 0 < d then 33 else 31 := ⟨_, rfl⟩
  have HU : Hid (∀ w, Calls Tryd.prog 95 #[.int .i64 (d : Int)] w fun e w' => e = .returned (.int .i64 ue) ∧ w' = w) := Lib.hid (fun w => by rw [hue]; exact unended_any d w)
  have HUE := Lib.hid hue
  clear hue
  unfold cuV
  go_enter Tryd.func92, Tryd.ntmps92
  go_wp2_with fail
  go_loopg [7] line.size (fun gg s7 wr => ∃ (k : Nat) (b : List UInt8) (X : World), X = wr ∧ p ≤ k ∧ k ≤ line.size ∧ line.size - k ≤ gg ∧ b.length ≤ k ∧ Hid (Qs w line (.slice a ln lc) k i n s7 b X) ∧ Hid (quo ((L line).drop k) false b (k - p) = quo ((L line).drop p) false [] 0))
  case atStart => exact ⟨p, [], _, rfl, Nat.le_refl _, hp, by omega, by simp, Lib.hid (qs_start w line a ln lc p i n), Lib.hid (by rw [Nat.sub_self])⟩
  case round =>
    obtain ⟨k, b, X, hX, hpk, hk, hgg, hbk, HQ, HR⟩ := hrel
    subst hX
    obtain ⟨q0, q1, q2, q3, q4⟩ := HQ.out.cells
    by_cases hlt : k < line.size
    · have hz : (k : Int) < (line.size : Int) := by omega
      have hz0 : (0 : Int) ≤ (k : Int) := by omega
      have ea := get_btx line k hlt
      have h256 := bt_lt (L line) k
      have hdr : (L line).drop k = bt (L line) k :: (L line).drop (k + 1) := by
        rw [List.drop_eq_getElem_cons (by omega)]
        unfold bt
        rw [List.getElem?_eq_getElem (by omega)]
        rfl
      rw [hdr] at HR
      obtain ⟨c, hcc⟩ : ∃ c, c = bt (L line) k := ⟨_, rfl⟩
      rw [← hcc] at ea h256 HR
      clear hdr hcc
      cases hqc : quotC c with
      | false =>
        have HB := Lib.hid ((quo_bad (r := (L line).drop (k + 1)) (b := b) (n := k - p) hqc).symm.trans HR.out)
        have hcase : ((c.toNat : Int) < 1) ∨ (¬ (c.toNat : Int) < 1 ∧ (127 : Int) < (c.toNat : Int)) ∨ (¬ (c.toNat : Int) < 1 ∧ ¬ (127 : Int) < (c.toNat : Int) ∧ (c.toNat : Int) = 10) ∨ (¬ (c.toNat : Int) < 1 ∧ ¬ (127 : Int) < (c.toNat : Int) ∧ ¬ (c.toNat : Int) = 10 ∧ (c.toNat : Int) = 13) := by
          by_cases a1 : (c.toNat : Int) < 1
          · exact .inl a1
          · by_cases a2 : (127 : Int) < (c.toNat : Int)
            · exact .inr (.inl ⟨a1, a2⟩)
            · by_cases a3 : (c.toNat : Int) = 10
              · exact .inr (.inr (.inl ⟨a1, a2, a3⟩))
              · by_cases a4 : (c.toNat : Int) = 13
                · exact .inr (.inr (.inr ⟨a1, a2, a3, a4⟩))
                · exfalso
                  unfold quotC at hqc
                  have e10 : (c == 10) = false := by
                    rw [beq_eq_false_iff_ne]
                    rintro rfl
                    exact a3 rfl
                  have e13 : (c == 13) = false := by
                    rw [beq_eq_false_iff_ne]
                    rintro rfl
                    exact a4 rfl
                  rw [decide_eq_true (by omega), decide_eq_true (by omega), e10, e13] at hqc
                  cases hqc
        clear hqc HR
        rcases hcase with a1 | ⟨a1, a2⟩ | ⟨a1, a2, a3⟩ | ⟨a1, a2, a3, a4⟩
        · have h1 := HQ.out.wd
          have h2 := HQ.out.cu2
          have c10 := cell_of_row _ _ 0 _ _ _ h1
          have c11 := cell_of_row _ _ 1 _ _ _ h1
          have c12 := cell_of_row _ _ 2 _ _ _ h1
          have c13 := cell_of_row _ _ 3 _ _ _ h1
          have c20 := cell_of_row _ _ 0 _ _ _ h2
          have c21 := cell_of_row _ _ 1 _ _ _ h2
          have c22 := cell_of_row _ _ 2 _ _ _ h2
          have c23 := cell_of_row _ _ 3 _ _ _ h2
          have c24 := cell_of_row _ _ 4 _ _ _ h2
          have f1 : ∀ j, X.frozen? ⟨w.heap.size + 1, j, none⟩ = false := fun j => frozen_of_row _ _ _ _ _ h1
          have f2 : ∀ j, X.frozen? ⟨w.heap.size + 1 + 1, j, none⟩ = false := fun j => frozen_of_row _ _ _ _ _ h2
          clear h1 h2
          have HD := Lib.hid (HQ.out.done (.int .i64 0) (.string ⟨#[]⟩) (.slice none 0 0) (.bool false) (.string line) (.slice a ln lc) (.int .i64 (k : Int)) (.int .i64 (i : Int)) (.int .i64 (n : Int)))
          go_upto_region 5 with fail
          go_region
          go_wp2_with fail
          (try simp only [Exit.inBlock, Exit.then])
          refine qret (w := w) (.int .i64 0) (.string ⟨#[]⟩) (.slice none 0 0) (.bool false) (.string line) (.slice a ln lc) (.int .i64 (k : Int)) (.int .i64 (i : Int)) (.int .i64 (n : Int)) _ HD.out.1 HD.out.2.1 rfl rfl rfl ?_
          exact ⟨by rw [← HB.out]; exact ⟨k, rfl⟩, HD.out.2.2.drew⟩
        · have h1 := HQ.out.wd
          have h2 := HQ.out.cu2
          have c10 := cell_of_row _ _ 0 _ _ _ h1
          have c11 := cell_of_row _ _ 1 _ _ _ h1
          have c12 := cell_of_row _ _ 2 _ _ _ h1
          have c13 := cell_of_row _ _ 3 _ _ _ h1
          have c20 := cell_of_row _ _ 0 _ _ _ h2
          have c21 := cell_of_row _ _ 1 _ _ _ h2
          have c22 := cell_of_row _ _ 2 _ _ _ h2
          have c23 := cell_of_row _ _ 3 _ _ _ h2
          have c24 := cell_of_row _ _ 4 _ _ _ h2
          have f1 : ∀ j, X.frozen? ⟨w.heap.size + 1, j, none⟩ = false := fun j => frozen_of_row _ _ _ _ _ h1
          have f2 : ∀ j, X.frozen? ⟨w.heap.size + 1 + 1, j, none⟩ = false := fun j => frozen_of_row _ _ _ _ _ h2
          clear h1 h2
          have HD := Lib.hid (HQ.out.done (.int .i64 0) (.string ⟨#[]⟩) (.slice none 0 0) (.bool false) (.string line) (.slice a ln lc) (.int .i64 (k : Int)) (.int .i64 (i : Int)) (.int .i64 (n : Int)))
          go_upto_region 5 with fail
          go_region
          go_wp2_with fail
          (try simp only [Exit.inBlock, Exit.then])
          refine qret (w := w) (.int .i64 0) (.string ⟨#[]⟩) (.slice none 0 0) (.bool false) (.string line) (.slice a ln lc) (.int .i64 (k : Int)) (.int .i64 (i : Int)) (.int .i64 (n : Int)) _ HD.out.1 HD.out.2.1 rfl rfl rfl ?_
          exact ⟨by rw [← HB.out]; exact ⟨k, rfl⟩, HD.out.2.2.drew⟩
        · have h1 := HQ.out.wd
          have h2 := HQ.out.cu2
          have c10 := cell_of_row _ _ 0 _ _ _ h1
          have c11 := cell_of_row _ _ 1 _ _ _ h1
          have c12 := cell_of_row _ _ 2 _ _ _ h1
          have c13 := cell_of_row _ _ 3 _ _ _ h1
          have c20 := cell_of_row _ _ 0 _ _ _ h2
          have c21 := cell_of_row _ _ 1 _ _ _ h2
          have c22 := cell_of_row _ _ 2 _ _ _ h2
          have c23 := cell_of_row _ _ 3 _ _ _ h2
          have c24 := cell_of_row _ _ 4 _ _ _ h2
          have f1 : ∀ j, X.frozen? ⟨w.heap.size + 1, j, none⟩ = false := fun j => frozen_of_row _ _ _ _ _ h1
          have f2 : ∀ j, X.frozen? ⟨w.heap.size + 1 + 1, j, none⟩ = false := fun j => frozen_of_row _ _ _ _ _ h2
          clear h1 h2
          have HD := Lib.hid (HQ.out.done (.int .i64 0) (.string ⟨#[]⟩) (.slice none 0 0) (.bool false) (.string line) (.slice a ln lc) (.int .i64 (k : Int)) (.int .i64 (i : Int)) (.int .i64 (n : Int)))
          go_upto_region 5 with fail
          go_region
          go_wp2_with fail
          (try simp only [Exit.inBlock, Exit.then])
          refine qret (w := w) (.int .i64 0) (.string ⟨#[]⟩) (.slice none 0 0) (.bool false) (.string line) (.slice a ln lc) (.int .i64 (k : Int)) (.int .i64 (i : Int)) (.int .i64 (n : Int)) _ HD.out.1 HD.out.2.1 rfl rfl rfl ?_
          exact ⟨by rw [← HB.out]; exact ⟨k, rfl⟩, HD.out.2.2.drew⟩
        · have h1 := HQ.out.wd
          have h2 := HQ.out.cu2
          have c10 := cell_of_row _ _ 0 _ _ _ h1
          have c11 := cell_of_row _ _ 1 _ _ _ h1
          have c12 := cell_of_row _ _ 2 _ _ _ h1
          have c13 := cell_of_row _ _ 3 _ _ _ h1
          have c20 := cell_of_row _ _ 0 _ _ _ h2
          have c21 := cell_of_row _ _ 1 _ _ _ h2
          have c22 := cell_of_row _ _ 2 _ _ _ h2
          have c23 := cell_of_row _ _ 3 _ _ _ h2
          have c24 := cell_of_row _ _ 4 _ _ _ h2
          have f1 : ∀ j, X.frozen? ⟨w.heap.size + 1, j, none⟩ = false := fun j => frozen_of_row _ _ _ _ _ h1
          have f2 : ∀ j, X.frozen? ⟨w.heap.size + 1 + 1, j, none⟩ = false := fun j => frozen_of_row _ _ _ _ _ h2
          clear h1 h2
          have HD := Lib.hid (HQ.out.done (.int .i64 0) (.string ⟨#[]⟩) (.slice none 0 0) (.bool false) (.string line) (.slice a ln lc) (.int .i64 (k : Int)) (.int .i64 (i : Int)) (.int .i64 (n : Int)))
          go_upto_region 5 with fail
          go_region
          go_wp2_with fail
          (try simp only [Exit.inBlock, Exit.then])
          refine qret (w := w) (.int .i64 0) (.string ⟨#[]⟩) (.slice none 0 0) (.bool false) (.string line) (.slice a ln lc) (.int .i64 (k : Int)) (.int .i64 (i : Int)) (.int .i64 (n : Int)) _ HD.out.1 HD.out.2.1 rfl rfl rfl ?_
          exact ⟨by rw [← HB.out]; exact ⟨k, rfl⟩, HD.out.2.2.drew⟩
      | true =>
        have hq1 : ¬ (c.toNat : Int) < 1 ∧ ¬ (127 : Int) < (c.toNat : Int) ∧ ¬ (c.toNat : Int) = 10 ∧ ¬ (c.toNat : Int) = 13 := by
          unfold quotC at hqc
          rw [Bool.and_eq_true, Bool.and_eq_true, Bool.and_eq_true, decide_eq_true_eq, decide_eq_true_eq] at hqc
          obtain ⟨⟨⟨b1, b2⟩, b3⟩, b4⟩ := hqc
          refine ⟨by omega, by omega, fun e => ?_, fun e => ?_⟩
          · have : c = 10 := UInt8.toNat_inj.1 (by have : (10 : UInt8).toNat = 10 := rfl; omega)
            rw [this] at b3
            exact absurd b3 (by decide)
          · have : c = 13 := UInt8.toNat_inj.1 (by have : (13 : UInt8).toNat = 13 := rfl; omega)
            rw [this] at b4
            exact absurd b4 (by decide)
        obtain ⟨a1, a2, a3, a4⟩ := hq1
        have e3 : ((c.toNat : Int) == 10) = false := beq_eq_false_iff_ne.2 a3
        have e4 : ((c.toNat : Int) == 13) = false := beq_eq_false_iff_ne.2 a4
        by_cases a5 : (c.toNat : Int) = 34
        · have hc : c = 34 := UInt8.toNat_inj.1 (by have : (34 : UInt8).toNat = 34 := rfl; omega)
          have HB : Hid (Qr.done b (k - p + 1) = quo ((L line).drop p) false [] 0) := Lib.hid ((quo_end (r := (L line).drop (k + 1)) (b := b) (n := k - p)).symm.trans (by rw [← hc]; exact HR.out))
          clear hc HR
          obtain ⟨fz, HQ2⟩ := HQ.out.move (k + 1) ((k : Int) + 1) (by omega)
          replace HQ2 := Lib.hid HQ2
          go_upto_region 8 with fail
          generalize X.setCell ⟨w.heap.size, 2, none⟩ (.int .i64 ((k : Int) + 1)) = X2 at HQ2 ⊢
          clear q0 q1 q2 q3 q4 fz HQ
          obtain ⟨q0, q1, q2, q3, q4⟩ := HQ2.out.cells
          have hcv := row_back HQ2.out.row
          have hcv2 := row_back (w := X2.drew) (row_block HQ2.out.row (fun g hg => rfl))
          have h1 := HQ2.out.wd
          have h2 := HQ2.out.cu2
          have c10 := cell_of_row _ _ 0 _ _ _ h1
          have c11 := cell_of_row _ _ 1 _ _ _ h1
          have c12 := cell_of_row _ _ 2 _ _ _ h1
          have c13 := cell_of_row _ _ 3 _ _ _ h1
          have c20 := cell_of_row _ _ 0 _ _ _ h2
          have c21 := cell_of_row _ _ 1 _ _ _ h2
          have c22 := cell_of_row _ _ 2 _ _ _ h2
          have c23 := cell_of_row _ _ 3 _ _ _ h2
          have c24 := cell_of_row _ _ 4 _ _ _ h2
          have f1 : ∀ j, X2.frozen? ⟨w.heap.size + 1, j, none⟩ = false := fun j => frozen_of_row _ _ _ _ _ h1
          have f2 : ∀ j, X2.frozen? ⟨w.heap.size + 1 + 1, j, none⟩ = false := fun j => frozen_of_row _ _ _ _ _ h2
          clear h1 h2
          have HD := Lib.hid (HQ2.out.done (.int .i64 2) (.string (S b)) (.slice none 0 0) (.bool false) (.string line) (.slice a ln lc) (.int .i64 ((k + 1 : Nat) : Int)) (.int .i64 (i : Int)) (.int .i64 (n : Int)))
          skip
          go_region
          go_wp2_with fail
          (try simp only [Exit.inBlock, Exit.then])
          refine qret (w := w) (.int .i64 2) (.string (S b)) (.slice none 0 0) (.bool false) (.string line) (.slice a ln lc) (.int .i64 ((k + 1 : Nat) : Int)) (.int .i64 (i : Int)) (.int .i64 (n : Int)) _ HD.out.1 HD.out.2.1 rfl rfl rfl ?_
          refine ⟨?_, HD.out.2.2.drew⟩
          rw [← HB.out]
          show _ = _
          unfold cuV
          rw [show p + (k - p + 1) = k + 1 by omega]
          rfl
        · by_cases a6 : (c.toNat : Int) = 92
          · have hc : c = 92 := UInt8.toNat_inj.1 (by have : (92 : UInt8).toNat = 92 := rfl; omega)
            have HB : Hid (quo (92 :: (L line).drop (k + 1)) false b (k - p) = quo ((L line).drop p) false [] 0) := Lib.hid (by rw [← hc]; exact HR.out)
            clear hc HR
            obtain ⟨fz, HQ2⟩ := HQ.out.move (k + 1) ((k : Int) + 1) (by omega)
            replace HQ2 := Lib.hid HQ2
            go_upto_region 11 with fail
            generalize X.setCell ⟨w.heap.size, 2, none⟩ (.int .i64 ((k : Int) + 1)) = X2 at HQ2 ⊢
            clear q0 q1 q2 q3 q4 fz HQ
            obtain ⟨q0, q1, q2, q3, q4⟩ := HQ2.out.cells
            by_cases h2 : k + 1 < line.size
            · have hz2 : ¬ (line.size : Int) ≤ (k : Int) + 1 := by omega
              have hz3 : ((k + 1 : Nat) : Int) < (line.size : Int) := by omega
              have hz4 : (0 : Int) ≤ ((k + 1 : Nat) : Int) := by omega
              have ea2 := get_btx line (k + 1) h2
              have h257 := bt_lt (L line) (k + 1)
              have hdr : (L line).drop (k + 1) = bt (L line) (k + 1) :: (L line).drop (k + 1 + 1) := by
                rw [List.drop_eq_getElem_cons (by omega)]
                unfold bt
                rw [List.getElem?_eq_getElem (by omega)]
                rfl
              rw [hdr, quo_esc_cons] at HB
              obtain ⟨y, hyy⟩ : ∃ y, y = bt (L line) (k + 1) := ⟨_, rfl⟩
              rw [← hyy] at ea2 h257 HB
              clear hdr hyy
              by_cases b1 : (y.toNat : Int) = 34
              · have hy : y = 34 := UInt8.toNat_inj.1 (by have : (34 : UInt8).toNat = 34 := rfl; omega)
                rw [if_pos (by rw [hy]; rfl)] at HB
                clear hy
                have Hb := Lib.hid b1
                go_wp2_with (at_builtin; refine qput rfl _ _ rfl HQ2.out _ y Hb.out.symm rfl rfl (by omega) ?_; intro v4 X4 HQ4; obtain ⟨r0, r1, r2, r3, r4⟩ := HQ4.cells; have fz4 := (HQ4.move ((k + 1 : Nat) + 1) (((k + 1 : Nat) : Int) + 1) (by omega)).1; replace HQ4 := Lib.hid HQ4)
                go_roundg (line.size - ((k + 1 : Nat) + 1))
                case measure => omega
                case rel => exact ⟨(k + 1 : Nat) + 1, b ++ [y], _, rfl, by omega, by omega, by omega, by rw [List.length_append, List.length_singleton]; omega, Lib.hid (HQ4.out.move ((k + 1 : Nat) + 1) (((k + 1 : Nat) : Int) + 1) (by omega)).2, Lib.hid (by rw [show k + 1 + 1 - p = k - p + 1 + 1 by omega]; exact HB.out)⟩
              · have b1e : ((y.toNat : Int) == 34) = false := beq_eq_false_iff_ne.2 b1
                by_cases b2 : (y.toNat : Int) = 92
                · have hy : y = 92 := UInt8.toNat_inj.1 (by have : (92 : UInt8).toNat = 92 := rfl; omega)
                  rw [if_pos (by rw [hy]; rfl)] at HB
                  clear hy
                  have Hb := Lib.hid b2
                  go_wp2_with (at_builtin; refine qput rfl _ _ rfl HQ2.out _ y Hb.out.symm rfl rfl (by omega) ?_; intro v4 X4 HQ4; obtain ⟨r0, r1, r2, r3, r4⟩ := HQ4.cells; have fz4 := (HQ4.move ((k + 1 : Nat) + 1) (((k + 1 : Nat) : Int) + 1) (by omega)).1; replace HQ4 := Lib.hid HQ4)
                  go_roundg (line.size - ((k + 1 : Nat) + 1))
                  case measure => omega
                  case rel => exact ⟨(k + 1 : Nat) + 1, b ++ [y], _, rfl, by omega, by omega, by omega, by rw [List.length_append, List.length_singleton]; omega, Lib.hid (HQ4.out.move ((k + 1 : Nat) + 1) (((k + 1 : Nat) : Int) + 1) (by omega)).2, Lib.hid (by rw [show k + 1 + 1 - p = k - p + 1 + 1 by omega]; exact HB.out)⟩
                · have b2e : ((y.toNat : Int) == 92) = false := beq_eq_false_iff_ne.2 b2
                  have b1n : ((y.toNat : Int) != 34) = true := by rw [bne, b1e]; rfl
                  have b2n : ((y.toNat : Int) != 92) = true := by rw [bne, b2e]; rfl
                  rw [slash_no b1 b2, if_neg Bool.false_ne_true] at HB
                  have h1 := HQ2.out.wd
                  have h2 := HQ2.out.cu2
                  have c10 := cell_of_row _ _ 0 _ _ _ h1
                  have c11 := cell_of_row _ _ 1 _ _ _ h1
                  have c12 := cell_of_row _ _ 2 _ _ _ h1
                  have c13 := cell_of_row _ _ 3 _ _ _ h1
                  have c20 := cell_of_row _ _ 0 _ _ _ h2
                  have c21 := cell_of_row _ _ 1 _ _ _ h2
                  have c22 := cell_of_row _ _ 2 _ _ _ h2
                  have c23 := cell_of_row _ _ 3 _ _ _ h2
                  have c24 := cell_of_row _ _ 4 _ _ _ h2
                  have f1 : ∀ j, X2.frozen? ⟨w.heap.size + 1, j, none⟩ = false := fun j => frozen_of_row _ _ _ _ _ h1
                  have f2 : ∀ j, X2.frozen? ⟨w.heap.size + 1 + 1, j, none⟩ = false := fun j => frozen_of_row _ _ _ _ _ h2
                  clear h1 h2
                  have HD := Lib.hid (HQ2.out.done (.int .i64 0) (.string ⟨#[]⟩) (.slice none 0 0) (.bool false) (.string line) (.slice a ln lc) (.int .i64 ((k + 1 : Nat) : Int)) (.int .i64 (i : Int)) (.int .i64 (n : Int)))
                  go_upto_region 14 with fail
                  go_region
                  go_wp2_with fail
                  (try simp only [Exit.inBlock, Exit.then])
                  refine qret (w := w) (.int .i64 0) (.string ⟨#[]⟩) (.slice none 0 0) (.bool false) (.string line) (.slice a ln lc) (.int .i64 ((k + 1 : Nat) : Int)) (.int .i64 (i : Int)) (.int .i64 (n : Int)) _ HD.out.1 HD.out.2.1 rfl rfl rfl ?_
                  exact ⟨by rw [← HB.out]; exact ⟨k + 1, rfl⟩, HD.out.2.2.drew⟩
            · have hz2 : (line.size : Int) ≤ (k : Int) + 1 := by omega
              have hdr : (L line).drop (k + 1) = [] := List.drop_eq_nil_of_le (by omega)
              rw [hdr, quo_esc_nil] at HB
              clear hdr
              have h1 := HQ2.out.wd
              have h2 := HQ2.out.cu2
              have c10 := cell_of_row _ _ 0 _ _ _ h1
              have c11 := cell_of_row _ _ 1 _ _ _ h1
              have c12 := cell_of_row _ _ 2 _ _ _ h1
              have c13 := cell_of_row _ _ 3 _ _ _ h1
              have c20 := cell_of_row _ _ 0 _ _ _ h2
              have c21 := cell_of_row _ _ 1 _ _ _ h2
              have c22 := cell_of_row _ _ 2 _ _ _ h2
              have c23 := cell_of_row _ _ 3 _ _ _ h2
              have c24 := cell_of_row _ _ 4 _ _ _ h2
              have f1 : ∀ j, X2.frozen? ⟨w.heap.size + 1, j, none⟩ = false := fun j => frozen_of_row _ _ _ _ _ h1
              have f2 : ∀ j, X2.frozen? ⟨w.heap.size + 1 + 1, j, none⟩ = false := fun j => frozen_of_row _ _ _ _ _ h2
              clear h1 h2
              have HD := Lib.hid (HQ2.out.done (.int .i64 0) (.string ⟨#[]⟩) (.slice none 0 0) (.bool false) (.string line) (.slice a ln lc) (.int .i64 ((k + 1 : Nat) : Int)) (.int .i64 (i : Int)) (.int .i64 (n : Int)))
              go_upto_region 12 with fail
              go_region_with (go_at_call 95; refine (HU.out _).mono ?_; rintro e w7 ⟨rfl, hw7⟩; subst w7)
              all_goals (go_wp2_with fail; (try simp only [Exit.inBlock, Exit.then]); refine qret (w := w) (.int .i64 0) (.string ⟨#[]⟩) (.slice none 0 0) (.bool false) (.string line) (.slice a ln lc) (.int .i64 ((k + 1 : Nat) : Int)) (.int .i64 (i : Int)) (.int .i64 (n : Int)) _ HD.out.1 HD.out.2.1 rfl rfl rfl ?_; exact ⟨by rw [← HB.out]; exact ⟨k + 1, by rw [HUE.out]; rfl⟩, HD.out.2.2.drew⟩)
          · have hne : c ≠ 34 := fun e => a5 (by rw [e]; rfl)
            have hne2 : c ≠ 92 := fun e => a6 (by rw [e]; rfl)
            have HB := Lib.hid ((quo_plain (r := (L line).drop (k + 1)) (b := b) (n := k - p) hqc hne hne2).symm.trans HR.out)
            clear hne hne2 HR hqc
            have e5 : ((c.toNat : Int) == 34) = false := beq_eq_false_iff_ne.2 a5
            have e6 : ((c.toNat : Int) == 92) = false := beq_eq_false_iff_ne.2 a6
            go_wp2_with (at_builtin; refine qput rfl _ _ rfl HQ.out _ c rfl rfl rfl (by omega) ?_; intro v4 X4 HQ4; obtain ⟨r0, r1, r2, r3, r4⟩ := HQ4.cells; have fz4 := (HQ4.move (k + 1) ((k : Int) + 1) (by omega)).1; replace HQ4 := Lib.hid HQ4)
            go_roundg (line.size - (k + 1))
            case measure => omega
            case rel => exact ⟨k + 1, b ++ [c], _, rfl, by omega, by omega, by omega, by rw [List.length_append, List.length_singleton]; omega, Lib.hid (HQ4.out.move (k + 1) ((k : Int) + 1) (by omega)).2, Lib.hid (by rw [show k + 1 - p = k - p + 1 by omega]; exact HB.out)⟩
    · have hz : ¬ (k : Int) < (line.size : Int) := by omega
      have hdr : (L line).drop k = [] := List.drop_eq_nil_of_le (by omega)
      rw [hdr, quo_nil] at HR
      clear hdr
      have h1 := HQ.out.wd
      have h2 := HQ.out.cu2
      have c10 := cell_of_row _ _ 0 _ _ _ h1
      have c11 := cell_of_row _ _ 1 _ _ _ h1
      have c12 := cell_of_row _ _ 2 _ _ _ h1
      have c13 := cell_of_row _ _ 3 _ _ _ h1
      have c20 := cell_of_row _ _ 0 _ _ _ h2
      have c21 := cell_of_row _ _ 1 _ _ _ h2
      have c22 := cell_of_row _ _ 2 _ _ _ h2
      have c23 := cell_of_row _ _ 3 _ _ _ h2
      have c24 := cell_of_row _ _ 4 _ _ _ h2
      have f1 : ∀ j, X.frozen? ⟨w.heap.size + 1, j, none⟩ = false := fun j => frozen_of_row _ _ _ _ _ h1
      have f2 : ∀ j, X.frozen? ⟨w.heap.size + 1 + 1, j, none⟩ = false := fun j => frozen_of_row _ _ _ _ _ h2
      clear h1 h2
      have HD := Lib.hid (HQ.out.done (.int .i64 0) (.string ⟨#[]⟩) (.slice none 0 0) (.bool false) (.string line) (.slice a ln lc) (.int .i64 (k : Int)) (.int .i64 (i : Int)) (.int .i64 (n : Int)))
      go_upto_region 18 with fail
      go_region_with (go_at_call 95; refine (HU.out _).mono ?_; rintro e w7 ⟨rfl, hw7⟩; subst w7)
      all_goals (go_wp2_with fail; (try simp only [Exit.inBlock, Exit.then]); refine qret (w := w) (.int .i64 0) (.string ⟨#[]⟩) (.slice none 0 0) (.bool false) (.string line) (.slice a ln lc) (.int .i64 (k : Int)) (.int .i64 (i : Int)) (.int .i64 (n : Int)) _ HD.out.1 HD.out.2.1 rfl rfl rfl ?_; exact ⟨by rw [← HR.out]; exact ⟨k, by rw [HUE.out]; rfl⟩, HD.out.2.2.drew⟩)
end Go.Proofs.YtliiapdakojomabDoor

/- lex: the document's word: nothing begins there, or too many words have begun. -/
namespace Go.Proofs.YtliiapdakojomabDoor
open Go.RowKit

theorem wret {R : Ending → World → Prop} {w Y : World} {tmps : Array Value} (x0 x1 x2 x3 y0 y1 y2 y3 y4 cd : Value)
    (h1 : Y.heap[w.heap.size + 1]? = some (.cells #[x0, x1, x2, x3] 33 (0, 0))) (h2 : Y.heap[w.heap.size + 1 + 1]? = some (.cells #[y0, y1, y2, y3, y4] 81 (0, 0)))
    (h4 : tmps.getD 4 undef = .pointer (some ⟨w.heap.size + 1, 0, none⟩)) (h5 : tmps.getD 5 undef = .pointer (some ⟨w.heap.size + 1 + 1, 0, none⟩)) (h6 : tmps.getD 6 undef = cd)
    (hR : R (.returned (.tuple #[.agg #[x0, x1, x2, x3], .agg #[y0, y1, y2, y3, y4], cd])) Y.drew) : bodyPost Tryd.prog Tryd.f72 R .ret ⟨tmps, []⟩ Y.drew := by
  subst h6
  exact bodyPost_ret (res3 Tryd.results72 _ _ (w.heap.size + 1) (w.heap.size + 1 + 1) 33 81 #[x0, x1, x2, x3] #[y0, y1, y2, y3, y4] (0, 0) (0, 0) _ _ h4 h1 Tryd.underlying33 rfl Tryd.sizeWord h5 h2 Tryd.underlying81 rfl Tryd.sizeCur) rfl hR
/-- The number of words that have begun is written. -/
theorem Qs.tally {w : World} {line : ByteArray} {vl : Value} {p i n : Nat} {v : Value} {b : List UInt8} {X : World} (h : Qs w line vl p i n v b X) (k : Nat) (z : Int) (hz : z = (k : Int)) : X.frozen? ⟨w.heap.size, 4, none⟩ = false ∧ Qs w line vl p i k v b (X.setCell ⟨w.heap.size, 4, none⟩ (.int .i64 z)) := by
  subst hz
  have hs := heap_setCell_same X w.heap.size 4 _ _ (.int .i64 (k : Int)) h.cur
  refine ⟨frozen_of_row _ _ _ _ _ h.cur, ⟨hs, ?_, ?_, ?_, h.below.setCell (p := ⟨w.heap.size, 4, none⟩) (Nat.le_refl _) _⟩⟩
  · exact (heap_setCell_other X ⟨w.heap.size, 4, none⟩ (w.heap.size + 1) _ (by show w.heap.size + 1 ≠ w.heap.size; omega)).trans h.wd
  · exact (heap_setCell_other X ⟨w.heap.size, 4, none⟩ (w.heap.size + 1 + 1) _ (by show w.heap.size + 1 + 1 ≠ w.heap.size; omega)).trans h.cu2
  · refine row_block h.row (fun g hg => ?_)
    have := (row_lt h.row hg).1
    exact heap_setCell_other X ⟨w.heap.size, 4, none⟩ g _ (by show g ≠ w.heap.size; omega)
/-- The number of literals taken is written. -/
theorem Qs.took {w : World} {line : ByteArray} {vl : Value} {p i n : Nat} {v : Value} {b : List UInt8} {X : World} (h : Qs w line vl p i n v b X) (k : Nat) (z : Int) (hz : z = (k : Int)) : X.frozen? ⟨w.heap.size, 3, none⟩ = false ∧ Qs w line vl p k n v b (X.setCell ⟨w.heap.size, 3, none⟩ (.int .i64 z)) := by
  subst hz
  have hs := heap_setCell_same X w.heap.size 3 _ _ (.int .i64 (k : Int)) h.cur
  refine ⟨frozen_of_row _ _ _ _ _ h.cur, ⟨hs, ?_, ?_, ?_, h.below.setCell (p := ⟨w.heap.size, 3, none⟩) (Nat.le_refl _) _⟩⟩
  · exact (heap_setCell_other X ⟨w.heap.size, 3, none⟩ (w.heap.size + 1) _ (by show w.heap.size + 1 ≠ w.heap.size; omega)).trans h.wd
  · exact (heap_setCell_other X ⟨w.heap.size, 3, none⟩ (w.heap.size + 1 + 1) _ (by show w.heap.size + 1 + 1 ≠ w.heap.size; omega)).trans h.cu2
  · refine row_block h.row (fun g hg => ?_)
    have := (row_lt h.row hg).1
    exact heap_setCell_other X ⟨w.heap.size, 3, none⟩ g _ (by show g ≠ w.heap.size; omega)
/-- What word answers where it refuses. -/
def wBad (line : ByteArray) (vl : Value) (k : Int) (e : Ending) : Prop := ∃ p i n : Nat, e = .returned (.tuple #[.agg #[.int .i64 0, .string ⟨#[]⟩, .slice none 0 0, .bool false], cuV line vl p i n, .int .i64 k])
set_option maxRecDepth 100000 in
set_option maxHeartbeats 4000000 in
theorem word_none (line : ByteArray) (a : Option Addr) (ln lc : Nat) (p i n d : Nat) (w : World) (hp : p < line.size) (hs : line.size ≤ 4096) (h1 : wordC (bt (L line) p) = false) (h2 : ¬ ((bt (L line) p).toNat : Int) = 34) (h3 : ¬ ((bt (L line) p).toNat : Int) = 40) (h4 : ¬ ((bt (L line) p).toNat : Int) = 91) (h5 : annI ((L line).drop p) = false) :
    Calls Tryd.prog 72 #[cuV line (.slice a ln lc) p i n, .int .i64 (d : Int)] w fun e w' => wBad line (.slice a ln lc) 30 e ∧ Below w.heap.size w w' := by
  have hll := L_length line
  have HA := Lib.hid (fun w => rann_any line p w hp (by omega))
  have ea := get_btx line p hp
  have h256 := bt_lt (L line) p
  have hp0 : (0 : Int) ≤ (p : Int) := by omega
  have hpz : (p : Int) < (line.size : Int) := by omega
  obtain ⟨c, hc⟩ : ∃ c, c = bt (L line) p := ⟨_, rfl⟩
  rw [← hc] at ea h256 h1 h2 h3 h4
  clear hc
  have HW := Lib.hid (fun w => atomByte_any c w)
  generalize annM ((L line).drop p) = am at *
  generalize annQ ((L line).drop p) = aq at *
  generalize annZ p ((L line).drop p) = az at *
  have HQ := Lib.hid (qs_start w line a ln lc p i n)
  generalize hX : ((w.alloc (.cells #[.string line, .slice a ln lc, .int .i64 (p : Int), .int .i64 (i : Int), .int .i64 (n : Int)] 81)).alloc (.cells #[.int .i64 0, .string ⟨#[]⟩, .slice none 0 0, .bool false] 33)).alloc (.cells #[.string ⟨#[]⟩, .slice none 0 0, .int .i64 0, .int .i64 0, .int .i64 0] 81) = X at HQ
  rw [h5] at HA
  rw [h1] at HW
  have e2 : ((c.toNat : Int) != 34) = true := by rw [bne, beq_eq_false_iff_ne.2 h2]; rfl
  have e3 : ((c.toNat : Int) != 40) = true := by rw [bne, beq_eq_false_iff_ne.2 h3]; rfl
  have e4 : ((c.toNat : Int) != 91) = true := by rw [bne, beq_eq_false_iff_ne.2 h4]; rfl
  clear h1 h5
  unfold cuV
  go_enter Tryd.func72, Tryd.ntmps72
  go_upto_region 1 with fail
  try rw [hX]
  clear hX
  obtain ⟨q0, q1, q2, q3, q4⟩ := HQ.out.cells
  have h1 := HQ.out.wd
  have h2 := HQ.out.cu2
  have c10 := cell_of_row _ _ 0 _ _ _ h1
  have c11 := cell_of_row _ _ 1 _ _ _ h1
  have c12 := cell_of_row _ _ 2 _ _ _ h1
  have c13 := cell_of_row _ _ 3 _ _ _ h1
  have c20 := cell_of_row _ _ 0 _ _ _ h2
  have c21 := cell_of_row _ _ 1 _ _ _ h2
  have c22 := cell_of_row _ _ 2 _ _ _ h2
  have c23 := cell_of_row _ _ 3 _ _ _ h2
  have c24 := cell_of_row _ _ 4 _ _ _ h2
  have f1 : ∀ j, X.frozen? ⟨w.heap.size + 1, j, none⟩ = false := fun j => frozen_of_row _ _ _ _ _ h1
  have f2 : ∀ j, X.frozen? ⟨w.heap.size + 1 + 1, j, none⟩ = false := fun j => frozen_of_row _ _ _ _ _ h2
  clear h1 h2
  go_upto_region 3 with (go_at_call 47; refine (HA.out _).mono ?_; rintro e w7 ⟨rfl, hw7⟩; subst w7)
  go_upto_region 4 with (go_at_call 91; refine (HW.out _).mono ?_; rintro e w7 ⟨rfl, hw7⟩; subst w7)
  have HD := Lib.hid (HQ.out.done (.int .i64 0) (.string ⟨#[]⟩) (.slice none 0 0) (.bool false) (.string line) (.slice a ln lc) (.int .i64 (p : Int)) (.int .i64 (i : Int)) (.int .i64 (n : Int)))
  skip
  go_region
  go_wp2_with fail
  (try simp only [Exit.inBlock, Exit.then])
  refine wret (w := w) (.int .i64 0) (.string ⟨#[]⟩) (.slice none 0 0) (.bool false) (.string line) (.slice a ln lc) (.int .i64 (p : Int)) (.int .i64 (i : Int)) (.int .i64 (n : Int)) _ HD.out.1 HD.out.2.1 rfl rfl rfl ?_
  exact ⟨⟨p, i, n, rfl⟩, HD.out.2.2.drew⟩
end Go.Proofs.YtliiapdakojomabDoor

/- lex, plain: the document's word by itself; what stays within bounds. -/
namespace Go.Proofs.YtliiapdakojomabDoor
open Go.RowKit

/-- What word answers. -/
inductive Wo where
  | bad (k : Int)
  | ok (d : Wd) (c : Cur)
def rw1 (l : List UInt8) (lits : List ByteArray) (W : Nat → UInt8 → Cur → Out) (depth : Nat) (c : Cur) : Wo :=
  if beginsB l c.pos = false then .bad 30
  else if c.count = 512 then .bad 34
  else if bt l c.pos = 34 then
    match quo (l.drop (c.pos + 1)) false [] 0 with
    | .bad => .bad 31
    | .cut => .bad (if 0 < depth then 33 else 31)
    | .done t m => .ok (.mk 2 (S t) [] false) { c with pos := c.pos + 1 + m, count := c.count + 1 }
  else if openerB (bt l c.pos) then
    if 12 ≤ depth then .bad 33
    else match W (depth + 1) (endOf (bt l c.pos)) { c with pos := c.pos + 1, count := c.count + 1 } with
      | .err k => .bad k
      | .ok kids c' => .ok (.mk (kindC (bt l c.pos)) (S []) kids false) c'
  else if bt l c.pos = 123 then
    match lits.drop c.lit with
    | [] => .bad 32
    | x :: _ => if x.size = annN (l.drop c.pos) then .ok (.mk 3 x [] false) { c with pos := c.pos + annS (l.drop c.pos), lit := c.lit + 1, count := c.count + 1 } else .bad 32
  else .ok (.mk 1 (S (atomL l c.pos)) [] false) { c with pos := c.pos + (atomL l c.pos).length, count := c.count + 1 }
def Wd.glue (d : Wd) (g : Bool) : Wd := .mk d.kind d.text d.kids g
theorem rws_succ (l : List UInt8) (lits : List ByteArray) (N depth : Nat) (e : UInt8) (acc : List Wd) (blank : Bool) (c : Cur) : rws l lits (N + 1) depth e acc blank c =
    if c.pos < l.length then
      if bt l c.pos = 32 then
        if blank || acc.isEmpty || closerB (nextB l c.pos) then .err 30 else rws l lits N depth e acc true { c with pos := c.pos + 1 }
      else if closerB (bt l c.pos) then
        if depth = 0 ∨ bt l c.pos ≠ e then .err 33 else .ok acc { c with pos := c.pos + 1 }
      else match rw1 l lits (fun d e c => rws l lits N d e [] false c) depth c with
        | .bad k => .err k
        | .ok d c' => rws l lits N depth e (acc ++ [d.glue (!acc.isEmpty && !blank)]) false c'
    else if 0 < depth then .err 33 else if blank then .err 30 else .ok acc c := by
  rw [rws]
  by_cases h0 : c.pos < l.length
  · rw [if_pos h0, if_pos h0]
    by_cases h1 : bt l c.pos = 32
    · rw [if_pos h1, if_pos h1]
    · rw [if_neg h1, if_neg h1]
      by_cases h2 : closerB (bt l c.pos) = true
      · rw [if_pos h2, if_pos h2]
      · rw [if_neg h2, if_neg h2]
        unfold rw1
        by_cases h3 : beginsB l c.pos = false
        · rw [if_pos h3, if_pos h3]
        · rw [if_neg h3, if_neg h3]
          by_cases h4 : c.count = 512
          · rw [if_pos h4, if_pos h4]
          · rw [if_neg h4, if_neg h4]
            by_cases h5 : bt l c.pos = 34
            · rw [if_pos h5, if_pos h5]
              cases quo (l.drop (c.pos + 1)) false [] 0 <;> rfl
            · rw [if_neg h5, if_neg h5]
              by_cases h6 : openerB (bt l c.pos) = true
              · rw [if_pos h6, if_pos h6]
                by_cases h7 : 12 ≤ depth
                · rw [if_pos h7, if_pos h7]
                · rw [if_neg h7, if_neg h7]
                  dsimp only
                  cases rws l lits N (depth + 1) (endOf (bt l c.pos)) [] false { c with pos := c.pos + 1, count := c.count + 1 } <;> rfl
              · rw [if_neg h6, if_neg h6]
                by_cases h8 : bt l c.pos = 123
                · rw [if_pos h8, if_pos h8]
                  cases lits.drop c.lit with
                  | nil => rfl
                  | cons x r =>
                    dsimp only
                    by_cases h9 : x.size = annN (l.drop c.pos)
                    · rw [if_pos h9, if_pos h9]; rfl
                    · rw [if_neg h9, if_neg h9]
                · rw [if_neg h8, if_neg h8]; rfl
  · rw [if_neg h0, if_neg h0]
/-- A cursor within bounds. -/
structure Cok (l : List UInt8) (lits : List ByteArray) (c : Cur) : Prop where
  pos : c.pos ≤ l.length
  lit : c.lit ≤ lits.length
  cnt : c.count ≤ 512
/-- What words tell is within bounds. -/
def Wsb (l : List UInt8) (lits : List ByteArray) (p : Nat) : Out → Prop
  | .err k => k ≠ 0
  | .ok _ c => p ≤ c.pos ∧ Cok l lits c
def Wob (l : List UInt8) (lits : List ByteArray) (p : Nat) : Wo → Prop
  | .bad k => k ≠ 0
  | .ok _ c => p < c.pos ∧ Cok l lits c
theorem rw1_ok (l : List UInt8) (lits : List ByteArray) (W : Nat → UInt8 → Cur → Out) (depth : Nat) (c : Cur) (hc : Cok l lits c) (hp : c.pos < l.length) (hW : ∀ d e c', Cok l lits c' → Wsb l lits c'.pos (W d e c')) : Wob l lits c.pos (rw1 l lits W depth c) := by
  obtain ⟨c1, c2, c3⟩ := hc
  unfold rw1
  split
  · exact (by decide : (30 : Int) ≠ 0)
  · rename_i h3
    have h3' : beginsB l c.pos = true := by
      cases hb : beginsB l c.pos with
      | true => rfl
      | false => exact absurd hb h3
    split
    · exact (by decide : (34 : Int) ≠ 0)
    · rename_i h4
      split
      · rename_i h5
        split
        · exact (by decide : (31 : Int) ≠ 0)
        · show (if 0 < depth then (33 : Int) else 31) ≠ 0
          split <;> decide
        · rename_i t m hq
          obtain ⟨j, hj, hj0, hjl, _⟩ := quo_done _ _ _ _ _ _ hq
          rw [List.length_drop] at hjl
          exact ⟨by show c.pos < c.pos + 1 + m; omega, by show c.pos + 1 + m ≤ l.length; omega, c2, by show c.count + 1 ≤ 512; omega⟩
      · rename_i h5
        split
        · split
          · exact (by decide : (33 : Int) ≠ 0)
          · have := hW (depth + 1) (endOf (bt l c.pos)) { c with pos := c.pos + 1, count := c.count + 1 } ⟨hp, c2, by show c.count + 1 ≤ 512; omega⟩
            split
            · rename_i k hk
              rw [hk] at this
              exact this
            · rename_i kids c2 hk
              rw [hk] at this
              exact ⟨this.1, this.2⟩
        · rename_i h6
          split
          · rename_i h8
            have hB : annB (l.drop c.pos) = true := by
              unfold beginsB at h3'
              rw [h8, show wordC 123 = false from rfl, show ((123 : UInt8) == 34) = false from rfl, show openerB 123 = false from rfl] at h3'
              simpa using h3'
            split
            · exact (by decide : (32 : Int) ≠ 0)
            · rename_i x r hx
              split
              · have hle := annS_fit (l.drop c.pos) hB
                rw [List.length_drop] at hle
                have hlen : c.lit < lits.length := by
                  apply Classical.byContradiction
                  intro hh
                  rw [List.drop_of_length_le (by omega)] at hx
                  cases hx
                exact ⟨by show c.pos < c.pos + annS (l.drop c.pos); omega, by show c.pos + annS (l.drop c.pos) ≤ l.length; omega, by show c.lit + 1 ≤ lits.length; omega, by show c.count + 1 ≤ 512; omega⟩
              · exact (by decide : (32 : Int) ≠ 0)
          · rename_i h8
            have hw : wordC (bt l c.pos) = true := by
              unfold beginsB at h3'
              have e1 : (bt l c.pos == 34) = false := by simpa using h5
              have e2 : (bt l c.pos == 123) = false := by simpa using h8
              have e3 : openerB (bt l c.pos) = false := by
                cases ho : openerB (bt l c.pos) with
                | false => rfl
                | true => exact absurd ho h6
              rw [e1, e2, e3] at h3'
              simpa using h3'
            obtain ⟨ha0, hal⟩ := atomL_pos hp hw
            exact ⟨by show c.pos < c.pos + (atomL l c.pos).length; omega, by show c.pos + (atomL l c.pos).length ≤ l.length; omega, c2, by show c.count + 1 ≤ 512; omega⟩
theorem rws_ok (l : List UInt8) (lits : List ByteArray) : ∀ (N depth : Nat) (e : UInt8) (acc : List Wd) (blank : Bool) (c : Cur), Cok l lits c → Wsb l lits c.pos (rws l lits N depth e acc blank c)
  | 0, _, _, _, _, _, _ => (by decide : (99 : Int) ≠ 0)
  | N + 1, depth, e, acc, blank, c, hc => by
    rw [rws_succ]
    by_cases h0 : c.pos < l.length
    · rw [if_pos h0]
      have up : ∀ c' : Cur, ∀ o, c.pos ≤ c'.pos → Wsb l lits c'.pos o → Wsb l lits c.pos o := fun c' o h1 h2 => by
        cases o with
        | err k => exact h2
        | ok ws cc => exact ⟨Nat.le_trans h1 h2.1, h2.2⟩
      by_cases h1 : bt l c.pos = 32
      · rw [if_pos h1]
        split
        · exact (by decide : (30 : Int) ≠ 0)
        · exact up { c with pos := c.pos + 1 } _ (Nat.le_succ _) (rws_ok l lits N depth e acc true { c with pos := c.pos + 1 } ⟨h0, hc.lit, hc.cnt⟩)
      · rw [if_neg h1]
        split
        · split
          · exact (by decide : (33 : Int) ≠ 0)
          · exact ⟨Nat.le_succ _, h0, hc.lit, hc.cnt⟩
        · have hr := rw1_ok l lits (fun d e c => rws l lits N d e [] false c) depth c hc h0 (fun d e c' hc' => rws_ok l lits N d e [] false c' hc')
          cases hw : rw1 l lits (fun d e c => rws l lits N d e [] false c) depth c with
          | bad k =>
            rw [hw] at hr
            exact hr
          | ok d c' =>
            rw [hw] at hr
            obtain ⟨a1, a2⟩ := hr
            exact up c' _ (Nat.le_of_lt a1) (rws_ok l lits N depth e _ false c' a2)
    · rw [if_neg h0]
      split
      · exact (by decide : (33 : Int) ≠ 0)
      · split
        · exact (by decide : (30 : Int) ≠ 0)
        · exact ⟨Nat.le_refl _, hc⟩
end Go.Proofs.YtliiapdakojomabDoor

/- lex: the document's word: what it answers, its memory behind a call. -/
namespace Go.Proofs.YtliiapdakojomabDoor
open Go.RowKit

/-- What word answers: a word, a cursor, a code. -/
def woRel (w w' : World) (a : Option Addr) (m cap : Nat) (kd : Int) (t : ByteArray) (p i n : Nat) (code : Int) : Wo → Prop
  | .bad k => code = k
  | .ok d c => code = 0 ∧ kd = d.kind ∧ t = d.text ∧ d.glued = false ∧ p = c.pos ∧ i = c.lit ∧ n = c.count ∧ Lies w' (fun g => w.heap.size ≤ g) a m cap d.kids
def woOut (line : ByteArray) (vl : Value) (w w' : World) (o : Wo) (e : Ending) : Prop := ∃ a m cap kd t p i n code, e = .returned (.tuple #[.agg #[.int .i64 kd, .string t, .slice a m cap, .bool false], cuV line vl p i n, .int .i64 code]) ∧ woRel w w' a m cap kd t p i n code o
theorem woBad {line : ByteArray} {vl : Value} {k : Int} {e : Ending} (w w' : World) (h : wBad line vl k e) : woOut line vl w w' (.bad k) e := by
  obtain ⟨p, i, n, rfl⟩ := h
  exact ⟨none, 0, 0, 0, ⟨#[]⟩, p, i, n, k, rfl, rfl⟩
/-- What words answer: a list, a cursor, a code. -/
def wsRel (w w' : World) (a : Option Addr) (m cap : Nat) (p i n : Nat) (code : Int) : Out → Prop
  | .err k => code = k
  | .ok ws c => code = 0 ∧ p = c.pos ∧ i = c.lit ∧ n = c.count ∧ Lies w' (fun g => w.heap.size ≤ g) a m cap ws
def wsOut (line : ByteArray) (vl : Value) (w w' : World) (o : Out) (e : Ending) : Prop := ∃ a m cap p i n code, e = .returned (.tuple #[.slice a m cap, cuV line vl p i n, .int .i64 code]) ∧ wsRel w w' a m cap p i n code o
theorem wretP {R : Ending → World → Prop} {w Y : World} {tmps : Array Value} (x0 x1 x2 x3 y0 y1 y2 y3 y4 cd : Value)
    (h1 : Y.heap[w.heap.size + 1]? = some (.cells #[x0, x1, x2, x3] 33 (0, 0))) (h2 : Y.heap[w.heap.size + 1 + 1]? = some (.cells #[y0, y1, y2, y3, y4] 81 (0, 0)))
    (h4 : tmps.getD 4 undef = .pointer (some ⟨w.heap.size + 1, 0, none⟩)) (h5 : tmps.getD 5 undef = .pointer (some ⟨w.heap.size + 1 + 1, 0, none⟩)) (h6 : tmps.getD 6 undef = cd)
    (hR : R (.returned (.tuple #[.agg #[x0, x1, x2, x3], .agg #[y0, y1, y2, y3, y4], cd])) Y) : bodyPost Tryd.prog Tryd.f72 R .ret ⟨tmps, []⟩ Y := by
  subst h6
  exact bodyPost_ret (res3 Tryd.results72 _ _ (w.heap.size + 1) (w.heap.size + 1 + 1) 33 81 #[x0, x1, x2, x3] #[y0, y1, y2, y3, y4] (0, 0) (0, 0) _ _ h4 h1 Tryd.underlying33 rfl Tryd.sizeWord h5 h2 Tryd.underlying81 rfl Tryd.sizeCur) rfl hR
theorem Qs.on {w : World} {line : ByteArray} {vl : Value} {p i n : Nat} {v : Value} {b : List UInt8} {X X' : World} (h : Qs w line vl p i n v b X) (hb : Below X.heap.size X X') : Qs w line vl p i n v b X' := by
  have hz := h.size
  exact ⟨by rw [hb.block _ (by omega)]; exact h.cur, by rw [hb.block _ (by omega)]; exact h.wd, by rw [hb.block _ (by omega)]; exact h.cu2, row_block h.row (fun g hg => hb.block g (row_lt h.row hg).2), h.below.trans (hb.mono (by omega))⟩
/-- What lies in blocks that are new stays, when the results are written. -/
theorem lies_done {w X : World} (x0 x1 x2 x3 y0 y1 y2 y3 y4 : Value) {B : Nat} (hB : w.heap.size + 1 + 1 + 1 ≤ B) {a : Option Addr} {m cap : Nat} {l : List Wd} (h : Lies X (fun g => B ≤ g) a m cap l) :
    Lies (((((((((X.setCell ⟨w.heap.size + 1, 0, none⟩ x0).setCell ⟨w.heap.size + 1, 1, none⟩ x1).setCell ⟨w.heap.size + 1, 2, none⟩ x2).setCell ⟨w.heap.size + 1, 3, none⟩ x3).setCell ⟨w.heap.size + 1 + 1, 0, none⟩ y0).setCell ⟨w.heap.size + 1 + 1, 1, none⟩ y1).setCell ⟨w.heap.size + 1 + 1, 2, none⟩ y2).setCell ⟨w.heap.size + 1 + 1, 3, none⟩ y3).setCell ⟨w.heap.size + 1 + 1, 4, none⟩ y4) (fun g => w.heap.size ≤ g) a m cap l := by
  refine h.mono (fun g hg hlt => ⟨by simpa using hlt, fun j => ?_⟩) (fun g hg => by omega)
  exact cell_of_heap ((rset5 _ (w.heap.size + 1 + 1) y0 y1 y2 y3 y4 g (by omega)).trans (rset4 X (w.heap.size + 1) x0 x1 x2 x3 g (by omega))) j
theorem lies_drew {X : World} {D : Nat → Prop} {a : Option Addr} {m cap : Nat} {l : List Wd} (h : Lies X D a m cap l) : Lies X.drew D a m cap l := Lies.mono (w := X) (w' := X.drew) (fun _ _ hlt => ⟨hlt, fun _ => rfl⟩) (fun _ x => x) h
def woL (kd : Int) : Out → Wo
  | .err k => .bad k
  | .ok kids c => .ok (.mk kd (S []) kids false) c
theorem woL_rel {W w' w w8 : World} {a : Option Addr} {m cap p i n : Nat} {code kd : Int} {o : Out} (h : wsRel W w' a m cap p i n code o) (hl : ∀ ws, Lies w' (fun g => W.heap.size ≤ g) a m cap ws → Lies w8 (fun g => w.heap.size ≤ g) a m cap ws) : woRel w w8 a m cap kd ⟨#[]⟩ p i n code (woL kd o) := by
  cases o with
  | err k => exact h
  | ok ws c =>
    obtain ⟨h1, h2, h3, h4, h5⟩ := h
    exact ⟨h1, rfl, rfl, rfl, h2, h3, h4, hl ws h5⟩
/-- A cursor in a new block. -/
theorem alloc5 (X : World) (y0 y1 y2 y3 y4 : Value) : (X.alloc (.cells #[y0, y1, y2, y3, y4] 81)).heap[X.heap.size]? = some (.cells #[y0, y1, y2, y3, y4] 81 (0, 0)) ∧ Below X.heap.size X (X.alloc (.cells #[y0, y1, y2, y3, y4] 81)) :=
  ⟨heap_alloc_new X _, (Below.refl _ _).alloc (Nat.le_refl _) _⟩
theorem alloc4 (X : World) (y0 y1 y2 y3 : Value) : (X.alloc (.cells #[y0, y1, y2, y3] 33)).heap[X.heap.size]? = some (.cells #[y0, y1, y2, y3] 33 (0, 0)) ∧ Below X.heap.size X (X.alloc (.cells #[y0, y1, y2, y3] 33)) :=
  ⟨heap_alloc_new X _, (Below.refl _ _).alloc (Nat.le_refl _) _⟩
end Go.Proofs.YtliiapdakojomabDoor

/- lex: the document's words: what they have in memory. -/
namespace Go.Proofs.YtliiapdakojomabDoor
open Go.RowKit

/-- The list so far, as a slice. -/
def wsl (ka : Option Addr) (kn kc : Nat) : Wc := ⟨0, S [], ka, kn, kc, false⟩
/-- What words have in memory: the cursor's box, the cursor's result, a row of words. -/
structure Ww (w : World) (line : ByteArray) (vl : Value) (p i n : Nat) (ka : Option Addr) (kn kc : Nat) (acc : List Wd) (D : Nat → Prop) (X : World) : Prop where
  cur : X.heap[w.heap.size]? = some (.cells #[.string line, vl, .int .i64 (p : Int), .int .i64 (i : Int), .int .i64 (n : Int)] 81 (0, 0))
  cu2 : X.heap[w.heap.size + 1]? = some (.cells #[.string ⟨#[]⟩, .slice none 0 0, .int .i64 0, .int .i64 0, .int .i64 0] 81 (0, 0))
  row : FrIs (w.heap.size + 1 + 1) D X (wsl ka kn kc) ⟨0, false, acc⟩
  dd : ∀ g, D g → w.heap.size + 1 + 1 ≤ g ∧ g < X.heap.size ∧ (Value.slice ka kn kc).ownBlock ≠ some g
  below : Below w.heap.size w X
theorem Ww.size {w : World} {line : ByteArray} {vl : Value} {p i n : Nat} {ka : Option Addr} {kn kc : Nat} {acc : List Wd} {D : Nat → Prop} {X : World} (h : Ww w line vl p i n ka kn kc acc D X) : w.heap.size + 1 + 1 ≤ X.heap.size := by
  have := (Array.getElem?_eq_some_iff.1 h.cu2).1
  omega
theorem Ww.kn {w : World} {line : ByteArray} {vl : Value} {p i n : Nat} {ka : Option Addr} {kn kc : Nat} {acc : List Wd} {D : Nat → Prop} {X : World} (h : Ww w line vl p i n ka kn kc acc D X) : kn = acc.length := h.row.kn
theorem Ww.cells {w : World} {line : ByteArray} {vl : Value} {p i n : Nat} {ka : Option Addr} {kn kc : Nat} {acc : List Wd} {D : Nat → Prop} {X : World} (h : Ww w line vl p i n ka kn kc acc D X) : X.cell? ⟨w.heap.size, 0, none⟩ = some (.string line) ∧ X.cell? ⟨w.heap.size, 1, none⟩ = some vl ∧ X.cell? ⟨w.heap.size, 2, none⟩ = some (.int .i64 (p : Int)) ∧ X.cell? ⟨w.heap.size, 3, none⟩ = some (.int .i64 (i : Int)) ∧ X.cell? ⟨w.heap.size, 4, none⟩ = some (.int .i64 (n : Int)) :=
  ⟨cell_of_row _ _ 0 _ _ _ h.cur, cell_of_row _ _ 1 _ _ _ h.cur, cell_of_row _ _ 2 _ _ _ h.cur, cell_of_row _ _ 3 _ _ _ h.cur, cell_of_row _ _ 4 _ _ _ h.cur⟩
/-- All blocks but the first two are as they were. -/
theorem Ww.put {w : World} {line : ByteArray} {vl vl' : Value} {p i n p' i' n' : Nat} {ka : Option Addr} {kn kc : Nat} {acc : List Wd} {D : Nat → Prop} {X X' : World} (h : Ww w line vl p i n ka kn kc acc D X) (hs : X.heap.size ≤ X'.heap.size) (hb : ∀ g, w.heap.size + 1 + 1 ≤ g → g < X.heap.size → X'.heap[g]? = X.heap[g]?)
    (hc : X'.heap[w.heap.size]? = some (.cells #[.string line, vl', .int .i64 (p' : Int), .int .i64 (i' : Int), .int .i64 (n' : Int)] 81 (0, 0)))
    (hc2 : X'.heap[w.heap.size + 1]? = some (.cells #[.string ⟨#[]⟩, .slice none 0 0, .int .i64 0, .int .i64 0, .int .i64 0] 81 (0, 0))) (hw : Below w.heap.size w X') : Ww w line vl' p' i' n' ka kn kc acc D X' :=
  ⟨hc, hc2, h.row.move (fun g hg hlt => ⟨by omega, hb g (h.dd g hg).1 hlt⟩) (fun _ x => x) (fun g e => hb g (h.row.lt g e).1 (h.row.lt g e).2), fun g hg => ⟨(h.dd g hg).1, Nat.lt_of_lt_of_le (h.dd g hg).2.1 hs, (h.dd g hg).2.2⟩, hw⟩
theorem Ww.on {w : World} {line : ByteArray} {vl : Value} {p i n : Nat} {ka : Option Addr} {kn kc : Nat} {acc : List Wd} {D : Nat → Prop} {X X' : World} (h : Ww w line vl p i n ka kn kc acc D X) (hb : Below X.heap.size X X') : Ww w line vl p i n ka kn kc acc D X' := by
  have hz := h.size
  exact h.put hb.size (fun g _ hlt => hb.block g hlt) (by rw [hb.block _ (by omega)]; exact h.cur) (by rw [hb.block _ (by omega)]; exact h.cu2) (h.below.trans (hb.mono (by omega)))
/-- The place is written. -/
theorem Ww.move {w : World} {line : ByteArray} {vl : Value} {p i n : Nat} {ka : Option Addr} {kn kc : Nat} {acc : List Wd} {D : Nat → Prop} {X : World} (h : Ww w line vl p i n ka kn kc acc D X) (k : Nat) (z : Int) (hz : z = (k : Int)) : X.frozen? ⟨w.heap.size, 2, none⟩ = false ∧ Ww w line vl k i n ka kn kc acc D (X.setCell ⟨w.heap.size, 2, none⟩ (.int .i64 z)) := by
  subst hz
  refine ⟨frozen_of_row _ _ _ _ _ h.cur, h.put (by simp) (fun g hg _ => heap_setCell_other X ⟨w.heap.size, 2, none⟩ g _ (by show g ≠ w.heap.size; omega)) (heap_setCell_same X w.heap.size 2 _ _ (.int .i64 (k : Int)) h.cur) ?_ (h.below.setCell (p := ⟨w.heap.size, 2, none⟩) (Nat.le_refl _) _)⟩
  exact (heap_setCell_other X ⟨w.heap.size, 2, none⟩ (w.heap.size + 1) _ (by show w.heap.size + 1 ≠ w.heap.size; omega)).trans h.cu2
/-- The whole cursor is written. -/
theorem Ww.jump {w : World} {line : ByteArray} {vl : Value} {p i n : Nat} {ka : Option Addr} {kn kc : Nat} {acc : List Wd} {D : Nat → Prop} {X : World} (h : Ww w line vl p i n ka kn kc acc D X) (p' i' n' : Nat) :
    Ww w line vl p' i' n' ka kn kc acc D (((((X.setCell ⟨w.heap.size, 0, none⟩ (.string line)).setCell ⟨w.heap.size, 1, none⟩ vl).setCell ⟨w.heap.size, 2, none⟩ (.int .i64 (p' : Int))).setCell ⟨w.heap.size, 3, none⟩ (.int .i64 (i' : Int))).setCell ⟨w.heap.size, 4, none⟩ (.int .i64 (n' : Int))) := by
  refine h.put (by simp) (fun g hg _ => rset5 X w.heap.size _ _ _ _ _ g (by omega)) (rput5 X w.heap.size _ _ _ _ _ _ _ _ _ _ _ h.cur) ((rset5 X w.heap.size _ _ _ _ _ (w.heap.size + 1) (by omega)).trans h.cu2) (bel5 h.below _ (Nat.le_refl _) _ _ _ _ _)
/-- The result's cursor is written. -/
theorem Ww.done {w : World} {line : ByteArray} {vl : Value} {p i n : Nat} {ka : Option Addr} {kn kc : Nat} {acc : List Wd} {D : Nat → Prop} {X : World} (h : Ww w line vl p i n ka kn kc acc D X) (y0 y1 y2 y3 y4 : Value) :
    (((((X.setCell ⟨w.heap.size + 1, 0, none⟩ y0).setCell ⟨w.heap.size + 1, 1, none⟩ y1).setCell ⟨w.heap.size + 1, 2, none⟩ y2).setCell ⟨w.heap.size + 1, 3, none⟩ y3).setCell ⟨w.heap.size + 1, 4, none⟩ y4).heap[w.heap.size + 1]? = some (.cells #[y0, y1, y2, y3, y4] 81 (0, 0)) ∧
    Below w.heap.size w (((((X.setCell ⟨w.heap.size + 1, 0, none⟩ y0).setCell ⟨w.heap.size + 1, 1, none⟩ y1).setCell ⟨w.heap.size + 1, 2, none⟩ y2).setCell ⟨w.heap.size + 1, 3, none⟩ y3).setCell ⟨w.heap.size + 1, 4, none⟩ y4) ∧
    Lies (((((X.setCell ⟨w.heap.size + 1, 0, none⟩ y0).setCell ⟨w.heap.size + 1, 1, none⟩ y1).setCell ⟨w.heap.size + 1, 2, none⟩ y2).setCell ⟨w.heap.size + 1, 3, none⟩ y3).setCell ⟨w.heap.size + 1, 4, none⟩ y4) (fun g => w.heap.size ≤ g) ka kn kc acc := by
  refine ⟨rput5 X (w.heap.size + 1) _ _ _ _ _ _ _ _ _ _ _ h.cu2, bel5 h.below _ (Nat.le_succ _) _ _ _ _ _, ?_⟩
  have hl : Lies X (fun g => D g ∨ (wsl ka kn kc).kv.ownBlock = some g) ka kn kc acc := h.row.ended.lies
  refine hl.mono (fun g hg hlt => ?_) (fun g hg => ?_)
  · have hge : w.heap.size + 1 + 1 ≤ g := by
      rcases hg with hg | hg
      · exact (h.dd g hg).1
      · exact (h.row.lt g hg).1
    exact ⟨by simpa using hlt, cell_of_heap (rset5 X (w.heap.size + 1) _ _ _ _ _ g (by omega))⟩
  · rcases hg with hg | hg
    · have := (h.dd g hg).1; omega
    · have := (h.row.lt g hg).1; omega
/-- l = append(l, w), the word in a new block. -/
theorem wput {ops : Array Oper} {rest : List Oper} {o : Oper} {a : Act} {Q : Exit → Act → World → Prop} (hgd : o.guard = none) (s x : Operand)
    (ho : o.op = .call { callee := .builtin .append, args := #[s, x], argTypes := #[24, 24] })
    {w : World} {line : ByteArray} {vl : Value} {p i n : Nat} {ka : Option Addr} {kn kc : Nat} {acc : List Wd} {D D' : Nat → Prop} {X : World} (h : Ww w line vl p i n ka kn kc acc D X) (c : Wc) (d : Wd) (hd : WdIs D' X c d) (hDD : ∀ g, D g → D' g) (hD' : ∀ g, D' g → w.heap.size + 1 + 1 ≤ g ∧ g < X.heap.size ∧ (Value.slice ka kn kc).ownBlock ≠ some g)
    (hs : a.eval s = .slice ka kn kc) (hx : a.eval x = .slice (some ⟨X.heap.size, 0, none⟩) 1 1) (hl : acc.length ≤ 100000000)
    (hk : ∀ ka' kn' kc' X', Ww w line vl p i n ka' kn' kc' (acc ++ [d]) D' X' → (∀ q, q < X.heap.size → (Value.slice ka kn kc).ownBlock ≠ some q → X'.heap[q]? = X.heap[q]?) → wpList Tryd.prog ops Q rest (a.put o.dst (.slice ka' kn' kc')) X') :
    wpList Tryd.prog ops Q (o :: rest) a (X.alloc (.cells #[.int .i64 c.kind, .string c.text, .slice c.ka c.kn c.kc, .bool c.glued] 33)) := by
  obtain ⟨i0, hi, hz0, hz1, hz2⟩ := info_parts Tryd.infoWord
  have hsz := h.size
  have hA := (Below.refl X.heap.size X).alloc (Nat.le_refl _) (.cells #[.int .i64 c.kind, .string c.text, .slice c.ka c.kn c.kc, .bool c.glued] 33)
  have hYx := heap_alloc_new X (.cells #[.int .i64 c.kind, .string c.text, .slice c.ka c.kn c.kc, .bool c.glued] 33)
  obtain ⟨its, hrow, hil, hwd⟩ := h.row.kids
  have hkn := h.kn
  have hil' : its.length = acc.length := hil
  have hrow1 : (X.alloc (.cells #[.int .i64 c.kind, .string c.text, .slice c.ka c.kn c.kc, .bool c.glued] 33)).ownsRow (w.heap.size + 1 + 1) 33 4 (.slice ka kn kc) its.length (wc its) := RowW.on (v := .slice ka kn kc) hrow hA
  have hown : ∀ g, (Value.slice ka kn kc).ownBlock = some g → w.heap.size + 1 + 1 ≤ g ∧ g < X.heap.size := h.row.lt
  refine wpList_append_lies _ hgd s x 24 ho (w.heap.size + 1 + 1) 33 i0 (.agg #[.int .i64 0, .string ⟨#[]⟩, .slice none 0 0, .bool false]) 4 56 Tryd.underlying24 hi hz0 hz1 hz2 rfl (by decide) (.slice ka kn kc) its.length (wc its) hs hrow1 ⟨X.heap.size, 0, none⟩ 1 1 (wc [c]) hx (wc_length [c]) ?_ (wc_one [c]) (by decide) (by unfold maxLen; omega) (by omega) (by simp; omega) (X.heap.size + 1) (by simp) ?_
  · intro k u hk
    have e : wc [c] = [.int .i64 c.kind, .string c.text, .slice c.ka c.kn c.kc, .bool c.glued] := rfl
    rw [e] at hk
    match k, hk with
    | 0, hk => simp at hk; subst hk; exact cell_of_row _ _ 0 _ _ _ hYx
    | 1, hk => simp at hk; subst hk; exact cell_of_row _ _ 1 _ _ _ hYx
    | 2, hk => simp at hk; subst hk; exact cell_of_row _ _ 2 _ _ _ hYx
    | 3, hk => simp at hk; subst hk; exact cell_of_row _ _ 3 _ _ _ hYx
    | (k + 4), hk => simp at hk
  intro g cap w2 hrow2 hgr hgg hglt
  rw [← wc_append] at hrow2
  have hblk : ∀ q, q < X.heap.size → (Value.slice ka kn kc).ownBlock ≠ some q → w2.heap[q]? = X.heap[q]? := fun q hq hne => by
    rw [hgr.block q (Nat.lt_of_lt_of_le hq hA.size) (fun e => hne e.symm), hA.block q hq]
  have hsz2 : X.heap.size ≤ w2.heap.size := Nat.le_trans hA.size hgr.size
  have hD2 : ∀ g, D' g → g < X.heap.size → g < w2.heap.size ∧ w2.heap[g]? = X.heap[g]? := fun g hg hlt => ⟨by omega, hblk g hlt (hD' g hg).2.2⟩
  refine hk (some ⟨g, 0, none⟩) (its.length + 1) cap w2 ⟨?_, ?_, ⟨rfl, rfl, rfl, its ++ [c], ?_, by simp [hil'], fun j hj => ?_⟩, fun q hq => ?_, ?_⟩ hblk
  · rw [hblk _ (by omega) (fun e => by have := (hown _ e).1; omega)]; exact h.cur
  · rw [hblk _ (by omega) (fun e => by have := (hown _ e).1; omega)]; exact h.cu2
  · show w2.ownsRow (w.heap.size + 1 + 1) 33 4 (.slice (some ⟨g, 0, none⟩) (its.length + 1) cap) (its ++ [c]).length (wc (its ++ [c]))
    rw [List.length_append]
    exact hrow2
  · show WdIs D' w2 ((its ++ [c]).getD j wc0) ((acc ++ [d]).getD j wd0)
    by_cases hjl : j < acc.length
    · rw [getD_snoc_lt _ _ _ _ (by omega), getD_snoc_lt _ _ _ _ hjl]
      exact ((hwd j hjl).move (D' := D') (fun g _ hlt => ⟨hlt, rfl⟩) hDD).move hD2 (fun _ x => x)
    · have hje : j = acc.length := by simp at hj; omega
      subst hje
      rw [show (its ++ [c]).getD acc.length wc0 = c by rw [← hil']; exact getD_snoc_eq _ _ _, show (acc ++ [d]).getD acc.length wd0 = d from getD_snoc_eq _ _ _]
      exact hd.move hD2 (fun _ x => x)
  · obtain ⟨a1, a2, a3⟩ := hD' q hq
    refine ⟨a1, by omega, fun e => ?_⟩
    have e2 : g = q := by simpa [Value.ownBlock] using e
    rcases hgg with hgg | hgg
    · rw [e2] at hgg; exact a3 hgg
    · omega
  · exact (h.below.trans (hA.mono (by omega))).grown hgr (by have := hA.size; omega) (fun k hk' => by have := (hown k hk').1; omega)
theorem Lies.bound {w : World} {D : Nat → Prop} {a : Option Addr} {n c : Nat} {l : List Wd} (h : Lies w D a n c l) : Lies w (fun g => D g ∧ g < w.heap.size) a n c l := by
  induction h with
  | nil => exact .nil
  | row g off cap l va vn vc hd hg hn hc _ ih => exact .row g off cap l va vn vc ⟨hd, hg⟩ hg hn hc ih
theorem ww_start (w : World) (line : ByteArray) (vl : Value) (p i n : Nat) : Ww w line vl p i n none 0 0 [] (fun _ => False) ((w.alloc (.cells #[.string line, vl, .int .i64 (p : Int), .int .i64 (i : Int), .int .i64 (n : Int)] 81)).alloc (.cells #[.string ⟨#[]⟩, .slice none 0 0, .int .i64 0, .int .i64 0, .int .i64 0] 81)) := by
  have h0 := heap_alloc_new w (.cells #[.string line, vl, .int .i64 (p : Int), .int .i64 (i : Int), .int .i64 (n : Int)] 81)
  generalize hY1 : w.alloc (.cells #[.string line, vl, .int .i64 (p : Int), .int .i64 (i : Int), .int .i64 (n : Int)] 81) = Y1 at *
  have s1 : Y1.heap.size = w.heap.size + 1 := by rw [← hY1]; simp
  have b1 : Below w.heap.size w Y1 := by rw [← hY1]; exact (Below.refl _ _).alloc (Nat.le_refl _) _
  have h1 := heap_alloc_new Y1 (.cells #[.string ⟨#[]⟩, .slice none 0 0, .int .i64 0, .int .i64 0, .int .i64 0] 81)
  have e1 := (Below.refl Y1.heap.size Y1).alloc (Nat.le_refl _) (.cells #[.string ⟨#[]⟩, .slice none 0 0, .int .i64 0, .int .i64 0, .int .i64 0] 81)
  rw [s1] at h1
  refine ⟨?_, h1, ⟨rfl, rfl, rfl, [], World.ownsRow_nil _ _ _ _, rfl, fun j hj => absurd hj (Nat.not_lt_zero _)⟩, fun g hg => hg.elim, b1.trans (e1.mono (by omega))⟩
  rw [e1.block _ (by omega)]
  exact h0
theorem results_tct {fn : Func} {p q u : Tmp} {ty : TypeId} (h : fn.results = #[.tmp p, .cell q ty, .tmp u]) (tmps : Array Value) (P : Program) (w : World) :
    (results fn tmps).run P w = ((asAddr (tmps.getD q undef)).run P w).andThen fun a w₁ => ((loadVar ty a).run P w₁).andThen fun v w₂ => .ok (.tuple #[tmps.getD p undef, v, tmps.getD u undef]) w₂ := by
  simp only [results, h]
  simp [Sem.run_bind, Result.andThen]
theorem res3w {P : Program} {fn : Func} {p q u : Tmp} {ty : TypeId} (h : fn.results = #[.tmp p, .cell q ty, .tmp u]) (tmps : Array Value) (w : World) (g : Nat) (t : TypeId) (cs : Array Value) (fr : Nat × Nat) (d : TypeDesc)
    (hq : tmps.getD q undef = .pointer (some ⟨g, 0, none⟩)) (hg : w.heap[g]? = some (.cells cs t fr)) (hu : P.underlying ty = some d) (hd : (match d with | .struct _ | .array _ _ => true | _ => false) = true) (hi : (P.info? ty).map (·.size) = some cs.size) :
    (results fn tmps).run P w = .ok (.tuple #[tmps.getD p undef, .agg cs, tmps.getD u undef]) w := by
  rw [results_tct h, hq]
  simp [asAddr, Result.andThen, run_loadVar_row w g t ty cs fr d hg hu hd hi]
theorem wsret {R : Ending → World → Prop} {w Y : World} {tmps : Array Value} (sl y0 y1 y2 y3 y4 cd : Value)
    (h2 : Y.heap[w.heap.size + 1]? = some (.cells #[y0, y1, y2, y3, y4] 81 (0, 0)))
    (h6 : tmps.getD 6 undef = sl) (h7 : tmps.getD 7 undef = .pointer (some ⟨w.heap.size + 1, 0, none⟩)) (h8 : tmps.getD 8 undef = cd)
    (hR : R (.returned (.tuple #[sl, .agg #[y0, y1, y2, y3, y4], cd])) Y.drew) : bodyPost Tryd.prog Tryd.f48 R .ret ⟨tmps, []⟩ Y.drew := by
  subst h6 h8
  exact bodyPost_ret (res3w Tryd.results48 _ _ (w.heap.size + 1) 81 #[y0, y1, y2, y3, y4] (0, 0) _ h7 h2 Tryd.underlying81 rfl Tryd.sizeCur) rfl hR
/-- A word and a cursor in two new blocks. -/
theorem alloc45 (X : World) (x0 x1 x2 x3 y0 y1 y2 y3 y4 : Value) :
    ((X.alloc (.cells #[x0, x1, x2, x3] 33)).alloc (.cells #[y0, y1, y2, y3, y4] 81)).heap[X.heap.size]? = some (.cells #[x0, x1, x2, x3] 33 (0, 0)) ∧ ((X.alloc (.cells #[x0, x1, x2, x3] 33)).alloc (.cells #[y0, y1, y2, y3, y4] 81)).heap[X.heap.size + 1]? = some (.cells #[y0, y1, y2, y3, y4] 81 (0, 0)) ∧ Below X.heap.size X ((X.alloc (.cells #[x0, x1, x2, x3] 33)).alloc (.cells #[y0, y1, y2, y3, y4] 81)) := by
  have h0 := heap_alloc_new X (.cells #[x0, x1, x2, x3] 33)
  have b1 := (Below.refl X.heap.size X).alloc (Nat.le_refl _) (.cells #[x0, x1, x2, x3] 33)
  have s1 : (X.alloc (.cells #[x0, x1, x2, x3] 33)).heap.size = X.heap.size + 1 := by simp
  generalize X.alloc (.cells #[x0, x1, x2, x3] 33) = Y1 at *
  have h1 := heap_alloc_new Y1 (.cells #[y0, y1, y2, y3, y4] 81)
  have e1 := (Below.refl Y1.heap.size Y1).alloc (Nat.le_refl _) (.cells #[y0, y1, y2, y3, y4] 81)
  rw [s1] at h1
  exact ⟨(e1.block X.heap.size (by omega)).trans h0, h1, b1.trans (e1.mono (by omega))⟩
/-- What words answer, as a contract: so many rounds are enough. -/
def WordsOK (line : ByteArray) (vl : Value) (lits : List ByteArray) (N : Nat) : Prop := ∀ (depth : Nat) (e : UInt8) (c : Cur) (w : World), Strs w vl lits → Cok (L line) lits c → line.size - c.pos < N → depth ≤ 12 →
  Calls Tryd.prog 48 #[cuV line vl c.pos c.lit c.count, .int .i64 (depth : Int), .int .u8 (e.toNat : Int)] w fun e' w' => wsOut line vl w w' (rws (L line) lits N depth e [] false c) e' ∧ Below w.heap.size w w'
end Go.Proofs.YtliiapdakojomabDoor
