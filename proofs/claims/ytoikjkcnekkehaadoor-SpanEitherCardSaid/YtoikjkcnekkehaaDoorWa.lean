/- SpanEither: the walk. -/
import Derived.Test.YtoikjkcnekkehaaDoorVu
namespace Go.Proofs.YtoikjkcnekkehaaDoor
open Go.RowKit

theorem hasB_append (a b : List Rg) (n g : Int) : hasB (a ++ b) n g = (hasB a n g || hasB b n g) := by
  unfold hasB
  rw [List.any_append]
  cases decide (1 ≤ g) <;> simp
theorem hasB_one (x : Rg) (n g : Int) : hasB [x] n g = (decide (1 ≤ g) && (pieceB x && inB (setl x g) n)) := by
  unfold hasB; simp
theorem hasB_turn (a b n g : Int) : hasB [(b, a)] n g = hasB [(a, b)] n g := by
  rw [hasB_one, hasB_one]
  congr 1
  unfold pieceB inB setl
  show (endB b && endB a && _) = (endB a && endB b && _)
  rw [Bool.and_comm (endB b), Int.min_comm, Int.max_comm]
theorem hasB_star (b n g : Int) (h1 : 1 ≤ g) (h2 : g ≤ 4294967295) : hasB [(g, b)] n g = hasB [(0, b)] n g := by
  rw [hasB_one, hasB_one]
  congr 1
  have e1 : starI g g = starI 0 g := by unfold starI; simp
  have e2 : endB g = true := by unfold endB; simp; omega
  have e3 : endB 0 = true := by decide
  unfold pieceB inB setl
  show (endB g && endB b && _) = (endB 0 && endB b && _)
  rw [e1, e2, e3]
theorem hasB_mem {l : List Rg} {k : Nat} {n g : Int} (hk : k < l.length) (h : hasB [((l.getD k (0, 0)).1, (l.getD k (0, 0)).2)] n g = true) : hasB l n g = true := by
  rw [hasB_one, Bool.and_eq_true] at h
  unfold hasB
  rw [h.1, Bool.true_and]
  exact any_hit k hk h.2
theorem hasB_pos {a b n g : Int} (h : hasB [(a, b)] n g = true) : 1 ≤ n ∧ 1 ≤ g ∧ 0 ≤ a ∧ 0 ≤ b := by
  rw [hasB_one, Bool.and_eq_true, Bool.and_eq_true, pieceB_iff] at h
  obtain ⟨h1, h2, h3⟩ := h
  have hg : 1 ≤ g := by simpa using h1
  refine ⟨?_, hg, h2.1, h2.2.2.1⟩
  unfold inB setl at h3
  simp only [Bool.and_eq_true, decide_eq_true_eq] at h3
  have i1 : 1 ≤ starI a g := by unfold starI; split <;> omega
  have i2 : 1 ≤ starI b g := by unfold starI; split <;> omega
  omega

theorem bstep {w X Y : World} {o : Obj} (h : Below w.heap.size w X) (hb : Below (X.alloc o).heap.size (X.alloc o) Y) : Below w.heap.size w Y := (h.alloc h.size o).trans (hb.mono (by have := h.size; simp; omega))
theorem bthen {w X Y : World} (h : Below w.heap.size w X) (hb : Below X.heap.size X Y) : Below w.heap.size w Y := h.trans (hb.mono h.size)
theorem cstep {X Y : World} {o : Obj} {B i : Nat} {v : Value} (h : X.cell? ⟨B, i, none⟩ = some v) (hb : Below (X.alloc o).heap.size (X.alloc o) Y) : Y.cell? ⟨B, i, none⟩ = some v := by
  have lt : B < X.heap.size := block_lt_of_cell h
  rw [hb.cell (p := ⟨B, i, none⟩) (by simp; omega), World.cell?_alloc_old _ _ _ (Nat.ne_of_lt lt)]
  exact h
theorem cthen {X Y : World} {B i : Nat} {v : Value} (h : X.cell? ⟨B, i, none⟩ = some v) (hb : Below X.heap.size X Y) : Y.cell? ⟨B, i, none⟩ = some v := by
  rw [hb.cell (p := ⟨B, i, none⟩) (block_lt_of_cell h)]; exact h
theorem lit1N (w : World) (N : Nat) (a b : Int) (t : TypeId) (hN : N = w.heap.size) : Rgs (w.alloc (.cells #[.int .i64 a, .int .i64 b] t)) (.slice (some ⟨N, 0, none⟩) 1 1) [(a, b)] := by
  subst hN; exact lit1 w a b t
set_option maxRecDepth 100000 in
set_option maxHeartbeats 4000000 in
theorem SpanEither_walk (v1 v2 : Value) (a b : List Rg) (n g : Int) (w : World) (he : Env w) (h1 : Rgs w v1 a) (h2 : Rgs w v2 b) (la : a.length ≤ 8796093022208) (lb : b.length ≤ 8796093022208) :
    Calls Tryd.prog 3 #[v1, v2, .int .i64 n, .int .i64 g] w fun e w' => e = .returned (.bool true) ∧ Below w.heap.size w w' := by
  have HK := Lib.hid (fun X (hX : Below w.heap.size w X) => (known_any X (he.on hX)).mono fun e w' ⟨p, q⟩ => (⟨p, hX.trans (q.mono hX.size)⟩ : e = Ending.returned (.bool true) ∧ Below w.heap.size w w'))
  obtain ⟨ao, cap, hv1, hca⟩ := h1.shape
  obtain ⟨bo, cap2, hv2, _⟩ := h2.shape
  subst hv1
  subst hv2
  have HCA := Lib.hid hca
  have H1 := Lib.hid h1
  have H2 := Lib.hid h2
  clear h1 h2 he hca
  by_cases hbig : 3000 < a.length + b.length
  · have hz : (3000 : Int) < (a.length : Int) + (b.length : Int) := by omega
    go_enter Tryd.func3, Tryd.ntmps3
    go_wp2_with fail
    go_ret
    exact ⟨rfl, Below.refl _ _⟩
  · have hz : ¬ (3000 : Int) < (a.length : Int) + (b.length : Int) := by omega
    have HO0 : Hid (OwnR w.heap.size (.slice (some ⟨w.heap.size, 0, none⟩) 0 0) [] w (w.alloc (.cells #[] 25))) := Lib.hid ⟨World.ownsRow_made w #[] 0 (Nat.le_refl _) (Nat.zero_le _) (by simp), (Below.refl _ _).alloc (Nat.le_refl _) _, by simp⟩
    go_enter Tryd.func3, Tryd.ntmps3
    go_wp2_with (at_builtin; refine appL rfl _ _ rfl HO0.out (H1.out.on ((Below.refl _ _).alloc (Nat.le_refl _) _)) rfl rfl (by simp; omega) ?_)
    intro v3 w3 ho3
    have HO3 := Lib.hid ho3
    clear ho3
    have hl3 : a.length + b.length ≤ 8796093022208 := by omega
    go_wp2_with (at_builtin; refine appL rfl _ _ rfl HO3.out (H2.out.on HO3.out.below) rfl rfl hl3 ?_)
    intro v4 w4 ho4
    have HO4 := Lib.hid ho4
    clear ho4
    have HB4 := Lib.hid HO4.out.below
    go_wp2_with fail
    refine (has_is (hasB a n g || hasB b n g) (HO4.out.rgs (by rw [List.length_append]; exact hl3)) (hasB_append a b n g)).mono ?_
    rintro e w5 ⟨rfl, hb5⟩
    have HB5 := Lib.hid (HB4.out.trans (hb5.mono HB4.out.size))
    clear hb5
    go_wp2_with fail
    refine (has_any _ a n g _ (H1.out.on HB5.out)).mono ?_
    rintro e w6 ⟨rfl, hb6⟩
    have HB6 := Lib.hid (HB5.out.trans (hb6.mono HB5.out.size))
    clear hb6
    cases hA : hasB a n g with
    | true =>
      clear hA
      go_wp2_with fail
      go_loopg [10] 200 (fun gg s10 wr => ∃ (k : Nat) (X : World), X = wr ∧ k ≤ a.length ∧ k ≤ 200 ∧ 200 - k ≤ gg ∧ s10 = .int .i64 k ∧ Below w.heap.size w X)
      case atStart => exact ⟨0, _, rfl, Nat.zero_le _, by omega, by omega, rfl, HB6.out⟩
      case round =>
        obtain ⟨k, X, hX, hk, hk2, hgg, rfl, hbx⟩ := hrel
        subst hX
        have HBX := Lib.hid hbx
        clear hbx
        by_cases hlt : k < a.length
        · have hltz : (k : Int) < (a.length : Int) := by omega
          by_cases h200 : k < 200
          · have h2z : (k : Int) < 200 := by omega
            obtain ⟨ba, oa, hba, hsa, ga⟩ := HCA.out (by omega)
            subst hba
            obtain ⟨c1, c2⟩ := ga k hlt
            rw [← HBX.out.cell (p := ⟨ba, oa + k * 2, none⟩) hsa] at c1
            rw [← HBX.out.cell (p := ⟨ba, oa + k * 2 + 1, none⟩) hsa] at c2
            have HM : Hid (hasB [((a.getD k (0, 0)).1, (a.getD k (0, 0)).2)] n g = true → hasB a n g = true) := Lib.hid (fun h => hasB_mem hlt h)
            clear ga
            generalize (a.getD k (0, 0)).1 = p at *
            generalize (a.getD k (0, 0)).2 = q at *
            have HT := Lib.hid (hasB_turn p q n g)
            cases hI : hasB [(p, q)] n g with
            | true =>
              obtain ⟨hn1, hg1, hp0, hq0⟩ := hasB_pos hI
              have nn : ¬ n < 1 := by omega
              have ng : ¬ g < 1 := by omega
              have np : ¬ p < 0 := by omega
              have nq : ¬ q < 0 := by omega
              have HAA := Lib.hid (HM.out hI)
              have HTT := Lib.hid (HT.out.trans hI)
              have HII := Lib.hid hI
              clear hI HM HT
              go_wp2_with fail
              refine (has_is true (lit1N _ _ p q _ (by simp)) HII.out).mono ?_
              rintro e w8 ⟨rfl, hb8⟩
              have HB8 := Lib.hid (bstep (HBX.out.alloc HBX.out.size _) hb8)
              have x1 : w8.cell? ⟨X.heap.size, 0, none⟩ = some (.int .i64 p) := cstep (by simp) hb8
              have x2 : w8.cell? ⟨X.heap.size, 1, none⟩ = some (.int .i64 q) := cstep (by simp) hb8
              clear hb8
              go_wp2_with fail
              refine (has_is true (lit1 w8 q p _) HTT.out).mono ?_
              rintro e w9 ⟨rfl, hb9⟩
              have HB9 := Lib.hid (bstep HB8.out hb9)
              replace x1 := cstep x1 hb9
              replace x2 := cstep x2 hb9
              clear hb9
              go_wp2_with fail
              refine (has_is true (H1.out.on HB9.out) HAA.out).mono ?_
              rintro e w10 ⟨rfl, hb10⟩
              have HB10 := Lib.hid (bthen HB9.out hb10)
              replace x1 := cthen x1 hb10
              replace x2 := cthen x2 hb10
              clear hb10
              by_cases p0 : p = 0
              · have p0q : (p == 0) = true := by rw [p0]; rfl
                by_cases g2 : g ≤ 4294967295
                · have HSS : Hid (hasB [(g, q)] n g = true) := Lib.hid (by rw [hasB_star q n g hg1 g2, ← p0]; exact HII.out)
                  clear p0
                  go_wp2_with (go_at_call 9; refine (has_is true (lit1 w10 g q _) HSS.out).mono ?_; rintro e w11 ⟨rfl, hb11⟩; have y1 := cstep x1 hb11; have y2 := cstep x2 hb11)
                  have HB11 := Lib.hid (bstep HB10.out hb11)
                  go_roundg (200 - (k + 1))
                  case measure => omega
                  case rel => exact ⟨k + 1, _, rfl, by omega, by omega, by omega, by go_num, HB11.out⟩
                · have g2z : ¬ g ≤ 4294967295 := g2
                  clear p0
                  go_wp2_with fail
                  go_roundg (200 - (k + 1))
                  case measure => omega
                  case rel => exact ⟨k + 1, _, rfl, by omega, by omega, by omega, by go_num, HB10.out⟩
              · have p0q : (p == 0) = false := by rw [beq_eq_false_iff_ne]; exact p0
                clear p0
                go_wp2_with fail
                go_roundg (200 - (k + 1))
                case measure => omega
                case rel => exact ⟨k + 1, _, rfl, by omega, by omega, by omega, by go_num, HB10.out⟩
            | false =>
              have HTT := Lib.hid (HT.out.trans hI)
              have HII := Lib.hid hI
              clear hI HM HT
              go_wp2_with fail
              refine (has_is false (lit1N _ _ p q _ (by simp)) HII.out).mono ?_
              rintro e w8 ⟨rfl, hb8⟩
              have HB8 := Lib.hid (bstep (HBX.out.alloc HBX.out.size _) hb8)
              have x1 : w8.cell? ⟨X.heap.size, 0, none⟩ = some (.int .i64 p) := cstep (by simp) hb8
              have x2 : w8.cell? ⟨X.heap.size, 1, none⟩ = some (.int .i64 q) := cstep (by simp) hb8
              clear hb8
              go_wp2_with fail
              refine (has_is false (lit1 w8 q p _) HTT.out).mono ?_
              rintro e w9 ⟨rfl, hb9⟩
              have HB9 := Lib.hid (bstep HB8.out hb9)
              replace x1 := cstep x1 hb9
              replace x2 := cstep x2 hb9
              clear hb9
              by_cases p0 : p = 0
              · have p0q : (p == 0) = true := by rw [p0]; rfl
                by_cases hg1 : 1 ≤ g
                · skip
                  by_cases g2 : g ≤ 4294967295
                  · have HSS : Hid (hasB [(g, q)] n g = false) := Lib.hid (by rw [hasB_star q n g hg1 g2, ← p0]; exact HII.out)
                    clear p0
                    go_wp2_with (go_at_call 9; refine (has_is false (lit1 w9 g q _) HSS.out).mono ?_; rintro e w11 ⟨rfl, hb11⟩; have y1 := cstep x1 hb11; have y2 := cstep x2 hb11)
                    have HB11 := Lib.hid (bstep HB9.out hb11)
                    go_roundg (200 - (k + 1))
                    case measure => omega
                    case rel => exact ⟨k + 1, _, rfl, by omega, by omega, by omega, by go_num, HB11.out⟩
                  · have g2z : ¬ g ≤ 4294967295 := g2
                    clear p0
                    go_wp2_with fail
                    go_roundg (200 - (k + 1))
                    case measure => omega
                    case rel => exact ⟨k + 1, _, rfl, by omega, by omega, by omega, by go_num, HB9.out⟩
                · clear p0
                  go_wp2_with fail
                  go_roundg (200 - (k + 1))
                  case measure => omega
                  case rel => exact ⟨k + 1, _, rfl, by omega, by omega, by omega, by go_num, HB9.out⟩
              · have p0q : (p == 0) = false := by rw [beq_eq_false_iff_ne]; exact p0
                clear p0
                go_wp2_with fail
                go_roundg (200 - (k + 1))
                case measure => omega
                case rel => exact ⟨k + 1, _, rfl, by omega, by omega, by omega, by go_num, HB9.out⟩
          · have h2z : ¬ (k : Int) < 200 := by omega
            go_wp2_with (go_at_call 10; refine (HK.out _ HBX.out).mono ?_; rintro e w12 ⟨rfl, hb12⟩)
            go_ret
            exact ⟨rfl, hb12⟩
        · have hltz : ¬ (k : Int) < (a.length : Int) := by omega
          go_wp2_with (go_at_call 10; refine (HK.out _ HBX.out).mono ?_; rintro e w12 ⟨rfl, hb12⟩)
          go_ret
          exact ⟨rfl, hb12⟩
    | false =>
      have hBB : (hasB b n g != hasB b n g) = false := by simp
      go_wp2_with (go_at_call 9; refine (has_any _ b n g _ (H2.out.on HB6.out)).mono ?_; rintro e w7 ⟨rfl, hb7⟩)
      have HB7 := Lib.hid (bthen HB6.out hb7)
      clear hA hBB hb7
      generalize hasB b n g = hbng
      go_loopg [10] 200 (fun gg s10 wr => ∃ (k : Nat) (X : World), X = wr ∧ k ≤ a.length ∧ k ≤ 200 ∧ 200 - k ≤ gg ∧ s10 = .int .i64 k ∧ Below w.heap.size w X)
      case atStart => exact ⟨0, _, rfl, Nat.zero_le _, by omega, by omega, rfl, HB7.out⟩
      case round =>
        obtain ⟨k, X, hX, hk, hk2, hgg, rfl, hbx⟩ := hrel
        subst hX
        have HBX := Lib.hid hbx
        clear hbx
        by_cases hlt : k < a.length
        · have hltz : (k : Int) < (a.length : Int) := by omega
          by_cases h200 : k < 200
          · have h2z : (k : Int) < 200 := by omega
            obtain ⟨ba, oa, hba, hsa, ga⟩ := HCA.out (by omega)
            subst hba
            obtain ⟨c1, c2⟩ := ga k hlt
            rw [← HBX.out.cell (p := ⟨ba, oa + k * 2, none⟩) hsa] at c1
            rw [← HBX.out.cell (p := ⟨ba, oa + k * 2 + 1, none⟩) hsa] at c2
            have HM : Hid (hasB [((a.getD k (0, 0)).1, (a.getD k (0, 0)).2)] n g = true → hasB a n g = true) := Lib.hid (fun h => hasB_mem hlt h)
            clear ga
            generalize (a.getD k (0, 0)).1 = p at *
            generalize (a.getD k (0, 0)).2 = q at *
            have HT := Lib.hid (hasB_turn p q n g)
            cases hI : hasB [(p, q)] n g with
            | true =>
              obtain ⟨hn1, hg1, hp0, hq0⟩ := hasB_pos hI
              have nn : ¬ n < 1 := by omega
              have ng : ¬ g < 1 := by omega
              have np : ¬ p < 0 := by omega
              have nq : ¬ q < 0 := by omega
              have HAA := Lib.hid (HM.out hI)
              have HTT := Lib.hid (HT.out.trans hI)
              have HII := Lib.hid hI
              clear hI HM HT
              go_wp2_with fail
              refine (has_is true (lit1N _ _ p q _ (by simp)) HII.out).mono ?_
              rintro e w8 ⟨rfl, hb8⟩
              have HB8 := Lib.hid (bstep (HBX.out.alloc HBX.out.size _) hb8)
              have x1 : w8.cell? ⟨X.heap.size, 0, none⟩ = some (.int .i64 p) := cstep (by simp) hb8
              have x2 : w8.cell? ⟨X.heap.size, 1, none⟩ = some (.int .i64 q) := cstep (by simp) hb8
              clear hb8
              go_wp2_with fail
              refine (has_is true (lit1 w8 q p _) HTT.out).mono ?_
              rintro e w9 ⟨rfl, hb9⟩
              have HB9 := Lib.hid (bstep HB8.out hb9)
              replace x1 := cstep x1 hb9
              replace x2 := cstep x2 hb9
              clear hb9
              go_wp2_with fail
              refine (has_is true (H1.out.on HB9.out) HAA.out).mono ?_
              rintro e w10 ⟨rfl, hb10⟩
              have HB10 := Lib.hid (bthen HB9.out hb10)
              replace x1 := cthen x1 hb10
              replace x2 := cthen x2 hb10
              clear hb10
              by_cases p0 : p = 0
              · have p0q : (p == 0) = true := by rw [p0]; rfl
                by_cases g2 : g ≤ 4294967295
                · have HSS : Hid (hasB [(g, q)] n g = true) := Lib.hid (by rw [hasB_star q n g hg1 g2, ← p0]; exact HII.out)
                  clear p0
                  go_wp2_with (go_at_call 9; refine (has_is true (lit1 w10 g q _) HSS.out).mono ?_; rintro e w11 ⟨rfl, hb11⟩; have y1 := cstep x1 hb11; have y2 := cstep x2 hb11)
                  have HB11 := Lib.hid (bstep HB10.out hb11)
                  go_roundg (200 - (k + 1))
                  case measure => omega
                  case rel => exact ⟨k + 1, _, rfl, by omega, by omega, by omega, by go_num, HB11.out⟩
                · have g2z : ¬ g ≤ 4294967295 := g2
                  clear p0
                  go_wp2_with fail
                  go_roundg (200 - (k + 1))
                  case measure => omega
                  case rel => exact ⟨k + 1, _, rfl, by omega, by omega, by omega, by go_num, HB10.out⟩
              · have p0q : (p == 0) = false := by rw [beq_eq_false_iff_ne]; exact p0
                clear p0
                go_wp2_with fail
                go_roundg (200 - (k + 1))
                case measure => omega
                case rel => exact ⟨k + 1, _, rfl, by omega, by omega, by omega, by go_num, HB10.out⟩
            | false =>
              have HTT := Lib.hid (HT.out.trans hI)
              have HII := Lib.hid hI
              clear hI HM HT
              go_wp2_with fail
              refine (has_is false (lit1N _ _ p q _ (by simp)) HII.out).mono ?_
              rintro e w8 ⟨rfl, hb8⟩
              have HB8 := Lib.hid (bstep (HBX.out.alloc HBX.out.size _) hb8)
              have x1 : w8.cell? ⟨X.heap.size, 0, none⟩ = some (.int .i64 p) := cstep (by simp) hb8
              have x2 : w8.cell? ⟨X.heap.size, 1, none⟩ = some (.int .i64 q) := cstep (by simp) hb8
              clear hb8
              go_wp2_with fail
              refine (has_is false (lit1 w8 q p _) HTT.out).mono ?_
              rintro e w9 ⟨rfl, hb9⟩
              have HB9 := Lib.hid (bstep HB8.out hb9)
              replace x1 := cstep x1 hb9
              replace x2 := cstep x2 hb9
              clear hb9
              by_cases p0 : p = 0
              · have p0q : (p == 0) = true := by rw [p0]; rfl
                by_cases hg1 : 1 ≤ g
                · skip
                  by_cases g2 : g ≤ 4294967295
                  · have HSS : Hid (hasB [(g, q)] n g = false) := Lib.hid (by rw [hasB_star q n g hg1 g2, ← p0]; exact HII.out)
                    clear p0
                    go_wp2_with (go_at_call 9; refine (has_is false (lit1 w9 g q _) HSS.out).mono ?_; rintro e w11 ⟨rfl, hb11⟩; have y1 := cstep x1 hb11; have y2 := cstep x2 hb11)
                    have HB11 := Lib.hid (bstep HB9.out hb11)
                    go_roundg (200 - (k + 1))
                    case measure => omega
                    case rel => exact ⟨k + 1, _, rfl, by omega, by omega, by omega, by go_num, HB11.out⟩
                  · have g2z : ¬ g ≤ 4294967295 := g2
                    clear p0
                    go_wp2_with fail
                    go_roundg (200 - (k + 1))
                    case measure => omega
                    case rel => exact ⟨k + 1, _, rfl, by omega, by omega, by omega, by go_num, HB9.out⟩
                · clear p0
                  go_wp2_with fail
                  go_roundg (200 - (k + 1))
                  case measure => omega
                  case rel => exact ⟨k + 1, _, rfl, by omega, by omega, by omega, by go_num, HB9.out⟩
              · have p0q : (p == 0) = false := by rw [beq_eq_false_iff_ne]; exact p0
                clear p0
                go_wp2_with fail
                go_roundg (200 - (k + 1))
                case measure => omega
                case rel => exact ⟨k + 1, _, rfl, by omega, by omega, by omega, by go_num, HB9.out⟩
          · have h2z : ¬ (k : Int) < 200 := by omega
            go_wp2_with (go_at_call 10; refine (HK.out _ HBX.out).mono ?_; rintro e w12 ⟨rfl, hb12⟩)
            go_ret
            exact ⟨rfl, hb12⟩
        · have hltz : ¬ (k : Int) < (a.length : Int) := by omega
          go_wp2_with (go_at_call 10; refine (HK.out _ HBX.out).mono ?_; rintro e w12 ⟨rfl, hb12⟩)
          go_ret
          exact ⟨rfl, hb12⟩
end Go.Proofs.YtoikjkcnekkehaaDoor
