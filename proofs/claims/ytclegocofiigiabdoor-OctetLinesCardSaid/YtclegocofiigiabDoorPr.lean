/- octet: readName. -/
import Derived.Test.YtclegocofiigiabDoorPq
import Derived.Deep.LoopGhost
namespace Go.Proofs.YtclegocofiigiabDoor
open Go.RowKit Go.Shelf

def rdn : List UInt8 → Nat → List UInt8
  | [], _ => []
  | _ :: r, n + 1 => rdn r n
  | c :: r, 0 => if c = 38 then (match dash r with
      | some k => readRun (r.take k) ++ rdn r (k + 1)
      | none => []) else c :: rdn r 0
def readName (l : List UInt8) : List UInt8 := rdn l 0
theorem rdn_skip (n : Nat) : ∀ l : List UInt8, rdn l n = rdn (l.drop n) 0 := by
  induction n with
  | zero => intro l; rfl
  | succ n ih =>
    intro l
    cases l with
    | nil => rfl
    | cons c r => rw [rdn, ih r]; rfl
theorem rdn_other (l : List UInt8) (k : Nat) (h : k < l.length) (hc : bt l k ≠ 38) : rdn (l.drop k) 0 = bt l k :: rdn (l.drop (k + 1)) 0 := by
  rw [drop_cons l k h, rdn, if_neg hc]
theorem rdn_some (l : List UInt8) (k j : Nat) (h : k < l.length) (hc : bt l k = 38) (hd : dash (l.drop (k + 1)) = some j) :
    rdn (l.drop k) 0 = readRun ((l.drop (k + 1)).take j) ++ rdn (l.drop (k + 1 + (j + 1))) 0 := by
  rw [drop_cons l k h, rdn, if_pos hc, hd]
  simp only
  rw [rdn_skip, List.drop_drop]
theorem rdn_none (l : List UInt8) (k : Nat) (h : k < l.length) (hc : bt l k = 38) (hd : dash (l.drop (k + 1)) = none) : rdn (l.drop k) 0 = [] := by
  rw [drop_cons l k h, rdn, if_pos hc, hd]
theorem rdn_len (l : List UInt8) : ∀ n, (rdn l n).length ≤ 4 * (l.length - n) := by
  induction l with
  | nil => intro n; simp [rdn]
  | cons c r ih =>
    intro n
    cases n with
    | succ n => rw [rdn]; have := ih n; simp only [List.length_cons]; omega
    | zero =>
      rw [rdn]
      split
      · cases hd : dash r with
        | none => simp
        | some k =>
          have h1 := ih (k + 1)
          have h2 := readRun_len (r.take k)
          have h3 := dash_lt r k hd
          have h4 : (r.take k).length ≤ k := List.length_take_le _ _
          simp only [List.length_append, List.length_cons]
          omega
      · have := ih 0; simp only [List.length_cons]; omega
theorem dash_hit (l : List UInt8) (e : Nat) (h : e < l.length) (hc : bt l e = 45) : dash (l.drop e) = some 0 := by
  rw [drop_cons l e h, dash, if_pos hc]
theorem dash_miss (l : List UInt8) (e : Nat) (h : e < l.length) (hc : bt l e ≠ 45) : dash (l.drop e) = (dash (l.drop (e + 1))).map (· + 1) := by
  rw [drop_cons l e h, dash, if_neg hc]
theorem beq_u8 (c : UInt8) (n : Nat) (hn : n < 256) : ((c.toNat : Int) == (n : Int)) = decide (c = UInt8.ofNat n) := by
  rw [Bool.eq_iff_iff]
  simp only [beq_iff_eq, decide_eq_true_eq]
  constructor
  · intro h
    apply UInt8.toNat_inj.1
    simp; omega
  · intro h; rw [h]; simp; omega

set_option maxHeartbeats 1000000 in
set_option maxRecDepth 100000 in
theorem readName_any (s : ByteArray) (w : World) (hs : s.size ≤ 100000) :
    Calls Tryd.prog 58 #[.string s] w fun e w' => e = .returned (.string (S (readName (L s)))) ∧ Below w.heap.size w w' := by
  have hpl := rdn_len (L s) 0
  rw [L_length] at hpl
  change (readName (L s)).length ≤ _ at hpl
  go_enter Tryd.func58, Tryd.ntmps58
  go_wp2
  go_step3
  go_wp2
  go_step3
  go_wp2
  go_loopg [3, 4] s.size (fun g v i wr => ∃ (k : Nat) (o : List UInt8), k + g = s.size ∧ i = .int .i64 k ∧ Hid (o ++ rdn ((L s).drop k) 0 = readName (L s)) ∧ Own w.heap.size v o w wr)
  case atStart => exact ⟨0, [], by omega, rfl, Lib.hid rfl, Own.nil (Below.refl _ _) (Nat.le_refl _)⟩
  case round =>
    obtain ⟨k, o, hkg, rfl, HN, hown⟩ := hrel
    have hol : o.length ≤ 4 * s.size := by
      have := congrArg List.length HN.out
      rw [List.length_append] at this
      omega
    cases gk with
    | zero =>
      have hlt : ¬ (k : Int) < (s.size : Int) := by omega
      have hn := HN.out
      rw [List.drop_eq_nil_of_le (by rw [L_length]; omega), rdn, List.append_nil] at hn
      subst hn
      have hcv := hown.back
      go_wp2
      try rw [Exit.noGoto_ret]
      go_ret
      exact ⟨rfl, hown.below⟩
    | succ g =>
      have hlt : k < s.size := by omega
      have ea := get_bt s k hlt
      have c0 : (bt (L s) k).toNat < 256 := bt_lt _ _
      by_cases h38 : bt (L s) k = 38
      · have hc : (((bt (L s) k).toNat : Int) != 38) = false := by rw [h38]; rfl
        have H38 := Lib.hid h38
        clear h38
        have hgo : ∃ V, u3 = V := ⟨_, rfl⟩
        go_wp2
        go_loopg [3, 4, 5] (s.size - (k + 1)) (fun g2 v i e wr' => ∃ m : Nat, m + g2 = s.size ∧ v = u3 ∧ i = .int .i64 k ∧ e = .int .i64 m ∧ k + 1 ≤ m ∧ wr' = wr ∧ Hid (dash ((L s).drop (k + 1)) = (dash ((L s).drop m)).map (· + (m - (k + 1)))))
        case atStart => exact ⟨k + 1, by omega, rfl, rfl, by go_num, by omega, rfl, Lib.hid (by simp)⟩
        case round =>
          obtain ⟨m, hmg, rfl, rfl, rfl, hkm, rfl, HD⟩ := hrel
          cases gk with
          | zero =>
            have hm : ¬ (m : Int) < (s.size : Int) := by omega
            have hd := HD.out
            have hdm : (L s).drop m = [] := List.drop_eq_nil_of_le (by rw [L_length]; omega)
            rw [hdm] at hd
            clear hdm
            have hn := HN.out
            rw [rdn_none (L s) k hlt H38.out hd, List.append_nil] at hn
            subst hn
            clear hd HD
            have hcv := hown.back
            go_wp2
            try rw [Exit.noGoto_ret]
            go_ret
            exact ⟨rfl, hown.below⟩
          | succ g2 =>
            have hm : m < s.size := by omega
            have eb := get_bt s m hm
            have c1 : (bt (L s) m).toNat < 256 := bt_lt _ _
            by_cases h45 : bt (L s) m = 45
            · have hc2 : (((bt (L s) m).toNat : Int) == 45) = true := by rw [h45]; rfl
              have hd := HD.out
              rw [dash_hit (L s) m hm h45] at hd
              have hn := HN.out
              rw [rdn_some (L s) k (m - (k + 1)) hlt H38.out (by simpa using hd)] at hn
              have e1 : k + 1 + (m - (k + 1) + 1) = m + 1 := by omega
              rw [e1] at hn
              have hex := extract_S s (k + 1) m
              have hrl := readRun_len (((L s).drop (k + 1)).take (m - (k + 1)))
              have hpl2 : (((L s).drop (k + 1)).take (m - (k + 1))).length ≤ m - (k + 1) := List.length_take_le _ _
              generalize ((L s).drop (k + 1)).take (m - (k + 1)) = pc at *
              have hsz : (S pc).size ≤ 1000000 := by rw [S_size]; omega
              have HL : Hid (o.length + (S (readRun pc)).size ≤ 140737488355328) := Lib.hid (by rw [S_size]; omega)
              have H : Hid ((o ++ readRun pc) ++ rdn ((L s).drop (m + 1)) 0 = readName (L s)) := Lib.hid (by rw [← hn]; simp)
              clear hn hd HD hrl hpl2 h45 e1
              go_wp2_with (first | (go_at_call 73; refine (readRun_any (S pc) _ hsz).mono ?_; rintro e w2 ⟨rfl, hb2⟩) | (at_builtin; refine appS rfl _ _ rfl (S (readRun pc)) (hown.on hb2) rfl rfl HL.out ?_; intro v3 w3 hown3))
              go_roundg (s.size - (m + 1))
              case measure => omega
              case rel => exact ⟨m + 1, o ++ readRun pc, by omega, by go_num, H, hown3⟩
            · have hc2 : (((bt (L s) m).toNat : Int) == 45) = false := by
                rw [show (45 : Int) = ((45 : Nat) : Int) from rfl, beq_u8 _ 45 (by omega)]
                exact decide_eq_false h45
              have hd := HD.out
              rw [dash_miss (L s) m hm h45, Option.map_map] at hd
              have HD2 : Hid (dash ((L s).drop (k + 1)) = (dash ((L s).drop (m + 1))).map (· + (m + 1 - (k + 1)))) := Lib.hid (by
                rw [hd]
                congr 1
                funext x
                simp only [Function.comp]
                omega)
              clear hd HD h45
              go_wp2
              go_roundg g2
              case measure => omega
              case rel => exact ⟨m + 1, by omega, rfl, rfl, by go_num, by omega, rfl, HD2⟩
      · have hc : (((bt (L s) k).toNat : Int) != 38) = true := by
          rw [show (38 : Int) = ((38 : Nat) : Int) from rfl, bne, beq_u8 _ 38 (by omega)]
          simp [h38]
        have hn := HN.out
        rw [rdn_other (L s) k hlt h38] at hn
        have H : Hid ((o ++ [bt (L s) k]) ++ rdn ((L s).drop (k + 1)) 0 = readName (L s)) := Lib.hid (by rw [← hn]; simp)
        have hl1 : o.length + 1 ≤ 140737488355328 := by omega
        clear hn h38 HN
        go_wp2_with (at_builtin; refine app1 rfl _ _ rfl _ (bt (L s) k) hown rfl rfl rfl hl1 ?_; intro v3 w3 hown3)
        go_roundg g
        case measure => omega
        case rel => exact ⟨k + 1, o ++ [bt (L s) k], by omega, by go_num, H, hown3⟩
end Go.Proofs.YtclegocofiigiabDoor
