/- disk: Rename. -/
import Derived.Test.YtbnicjpkfldcdaaDoorD9u
namespace Go.Proofs.YtbnicjpkfldcdaaDoor
open Go.RowKit Go.Lib

def moveP (a b : ByteArray) (P : List PF) : List PF :=
  if a = b then P else match P.find? (fun p => decide (p.name = a)) with
    | none => P
    | some p => dropP a (dropP b P) ++ [{ p with name := b }]
theorem find_pl {F1 F2 : List FE} {f : FE} {a : ByteArray} (hn : f.name = a) (h1 : ∀ g, g ∈ F1 → g.name ≠ a) : ((F1 ++ f :: F2).map FE.pl).find? (fun p => decide (p.name = a)) = some f.pl := by
  rw [List.map_append, List.find?_append]
  have : (F1.map FE.pl).find? (fun p => decide (p.name = a)) = none := by
    rw [List.find?_eq_none]
    intro p hp
    obtain ⟨g, hg, rfl⟩ := List.mem_map.1 hp
    simp [FE.pl, h1 g hg]
  rw [this]
  simp [FE.pl, hn]
theorem pl_to (F1 F2 : List FE) (f : FE) (b : ByteArray) (clk : Nat) : (F1 ++ (F2 ++ [f.to b clk])).map FE.pl = (F1 ++ F2).map FE.pl ++ [{ f.pl with name := b }] := by
  simp [FE.pl, FE.to]
theorem move_any {B d m clk : Nat} {sv : Value} {S : DS} {F1 F2 : List FE} {f : FE} {w : World} (h : DiskAt B d m clk sv S (F1 ++ f :: F2) w) (a b : ByteArray) (hfn : f.name = a) (hbs : b.size ≤ 140737488355328) :
    Calls Tryd.prog 47 #[.pointer (some ⟨d, 0, none⟩), .string a, .string b] w fun e w' => e = .returned (.tuple #[]) ∧ Did B d m sv S (F1 ++ f :: F2) w (moveP a b ((F1 ++ f :: F2).map FE.pl)) w' := by
  by_cases hab : a = b
  · subst hab
    refine (move_same a w).mono ?_
    rintro e w' ⟨rfl, rfl⟩
    exact ⟨rfl, by unfold moveP; rw [if_pos rfl]; exact Did.refl h⟩
  · have hnt := names_tail h.names
    rw [hfn] at hnt
    have hfind := find_pl (F1 := F1) (F2 := F2) hfn hnt.1
    have hmv : moveP a b ((F1 ++ f :: F2).map FE.pl) = dropP a (dropP b ((F1 ++ f :: F2).map FE.pl)) ++ [{ f.pl with name := b }] := by
      unfold moveP
      rw [if_neg hab, hfind]
    rw [hmv]
    rcases fe_split b (F1 ++ f :: F2) with ⟨G1, g, G2, hG, hgn, _⟩ | hno
    · have hnd := h.names
      rw [hG] at hnd
      have hgt := names_tail hnd
      rw [hgn] at hgt
      have hfG : f ∈ G1 ++ G2 := by
        have hf : f ∈ G1 ++ g :: G2 := by rw [← hG]; simp
        rcases List.mem_append.1 hf with hf | hf
        · simp [hf]
        · rcases List.mem_cons.1 hf with e | hf
          · exfalso; apply hab; rw [← hfn, e, hgn]
          · simp [hf]
      obtain ⟨K1, K2, hK⟩ := List.append_of_mem hfG
      have hno : ∀ x, x ∈ K1 ++ f :: K2 → x.name ≠ b := by
        intro x hx
        rw [← hK] at hx
        rcases List.mem_append.1 hx with hx | hx
        · exact hgt.1 x hx
        · exact hgt.2 x hx
      have hh := h
      rw [hG] at hh
      have hdr := drop_hit hh b hgn
      rw [hK] at hdr
      have hfpp : ∀ k, k ∈ fpOf d m sv (K1 ++ f :: K2) → k ∈ fpOf d m sv (G1 ++ g :: G2) := fun k hk => fp_drop.subset (by rw [hK]; exact hk)
      refine (move_walk (fpOf d m sv (G1 ++ g :: G2)) a b hfn hab hbs hno hdr hfpp).mono ?_
      rintro e w' ⟨rfl, hD, hS⟩
      have hndK : ((K1 ++ f :: K2).map FE.name).Nodup := by
        rw [← hK]
        refine List.Sublist.nodup ?_ hnd
        rw [List.map_append, List.map_append, List.map_cons]
        exact List.Sublist.append (List.Sublist.refl _) (List.sublist_cons_self _ _)
      refine ⟨rfl, clk + 1, _, hD, ?_, by rw [hG]; exact hS, fun k hk => .inl ?_⟩
      · rw [pl_to, hG, dropP_hit hgn hnd, hK, dropP_hit hfn hndK]
      · rw [hG]
        exact hfpp k ((fp_to d m sv K1 K2 f b clk).mem_iff.1 hk)
    · have hdr : Calls Tryd.prog 49 #[.pointer (some ⟨d, 0, none⟩), .string b] w fun e w' => e = .returned (.tuple #[]) ∧ DiskAt B d m clk sv S (F1 ++ f :: F2) w' ∧ Stays (fpOf d m sv (F1 ++ f :: F2)) w w' := by
        refine (drop_no h b hno).mono ?_
        rintro e w' ⟨rfl, rfl⟩
        exact ⟨rfl, h, Stays.refl _ _⟩
      refine (move_walk (fpOf d m sv (F1 ++ f :: F2)) a b hfn hab hbs hno hdr (fun _ hk => hk)).mono ?_
      rintro e w' ⟨rfl, hD, hS⟩
      refine ⟨rfl, clk + 1, _, hD, ?_, hS, fun k hk => .inl ((fp_to d m sv F1 F2 f b clk).mem_iff.1 hk)⟩
      rw [pl_to, dropP_no hno, dropP_hit hfn h.names]
theorem isFn_45 : IsFn 46 := isFn_of Tryd.func46 (by kernel_rfl) (by kernel_rfl)
theorem Rename1_any {B d m clk : Nat} {sv : Value} {S : DS} {F1 F2 : List FE} {f : FE} {w : World} (h : DiskAt B d m clk sv S (F1 ++ f :: F2) w) (k0 k1 k2 : Nat) (a b : ByteArray) (hfn : f.name = a) (hbs : b.size ≤ 140737488355328) (c0 : w.cell? ⟨k0, 0, none⟩ = some (.pointer (some ⟨d, 0, none⟩))) (c1 : w.cell? ⟨k1, 0, none⟩ = some (.string a)) (c2 : w.cell? ⟨k2, 0, none⟩ = some (.string b)) :
    Calls Tryd.prog 46 #[.pointer (some ⟨k0, 0, none⟩), .pointer (some ⟨k1, 0, none⟩), .pointer (some ⟨k2, 0, none⟩)] w fun e w' => e = .returned (.tuple #[]) ∧ Did B d m sv S (F1 ++ f :: F2) w (moveP a b ((F1 ++ f :: F2).map FE.pl)) w' := by
  have hG := Lib.hid (move_any h a b hfn hbs)
  clear h
  go_enter Tryd.func46, Tryd.ntmps46
  go_wp2_with (go_at_call 47; refine hG.out.mono ?_; rintro e w' ⟨rfl, hD⟩; have HD := Lib.hid hD; clear hD)
  first | refine bodyPost_end (results_none rfl _ _ _) rfl ?_ | refine bodyPost_ret (results_none rfl _ _ _) rfl ?_
  exact ⟨rfl, HD.out⟩
def sRename : ByteArray := ⟨#[114, 101, 110, 97, 109, 101]⟩
def renC (P : List PF) (a b : ByteArray) : Int := if isNm b = true then lookC P a else 90
set_option maxHeartbeats 4000000 in
theorem Rename_any {A : Whys} {B d m clk : Nat} {sv : Value} {S : DS} {F : List FE} {w : World} (h : DiskAt B d m clk sv S F w) (he : Env A B w) (hok : S.ok) (hn : S.steps < 1000000000) (a b : ByteArray) (has : a.size ≤ 140737488355328) (hbs : b.size ≤ 140737488355328) :
    Calls Tryd.prog 23 #[.pointer (some ⟨d, 0, none⟩), .string a, .string b] w fun e w' => After A B d m sv S F sRename a (renC (F.map FE.pl) a b) (moveP a b (F.map FE.pl)) (fun y => if 1 ≤ y then moveP a b (F.map FE.pl) else F.map FE.pl) w e w' := by
  obtain ⟨pv, c0, hlook, hc0, hcase⟩ := look_all h a has
  obtain ⟨c, hc⟩ : ∃ c, renC (F.map FE.pl) a b = c := ⟨_, rfl⟩
  rw [hc]
  unfold renC at hc
  rw [← hc0] at hc
  obtain ⟨hb1, cA, cB, cC⟩ := box3_facts w (.pointer (some ⟨d, 0, none⟩)) (.string a) (.string b) 24 9 9
  obtain ⟨W1, hW1⟩ : ∃ W1, ((w.alloc (.cells #[.pointer (some ⟨d, 0, none⟩)] 24)).alloc (.cells #[.string a] 9)).alloc (.cells #[.string b] 9) = W1 := ⟨_, rfl⟩
  have hz1 : W1.heap.size = w.heap.size + 1 + 1 + 1 := by rw [← hW1]; simp
  simp only [box3] at hb1 cA cB cC
  rw [hW1] at hb1 cA cB cC
  have HL := Lib.hid (hlook W1 (h.below hb1))
  have HN := Lib.hid (isName_any b W1 hbs)
  have HAl := Lib.hid (allOr_any (.func (.func 46) #[] #[.pointer (some ⟨w.heap.size, 0, none⟩), .pointer (some ⟨w.heap.size + 1, 0, none⟩), .pointer (some ⟨w.heap.size + 1 + 1, 0, none⟩)]) W1.drew _ _ rfl)
  obtain ⟨W2, hW2⟩ : ∃ W2, W1.drew.alloc (.cells #[.func (.func 46) #[] #[.pointer (some ⟨w.heap.size, 0, none⟩), .pointer (some ⟨w.heap.size + 1, 0, none⟩), .pointer (some ⟨w.heap.size + 1 + 1, 0, none⟩)]] 1) = W2 := ⟨_, rfl⟩
  have hb2 : Below W1.heap.size W1 W2 := by rw [← hW2]; exact (Below.refl _ _).drew.alloc (Nat.le_refl _) _
  have hbb : Below w.heap.size w W2 := hb1.trans (hb2.mono (by omega))
  have cA2 : W2.cell? ⟨w.heap.size, 0, none⟩ = some (.pointer (some ⟨d, 0, none⟩)) := by rw [← hW2]; exact cell_on cA _
  have cB2 : W2.cell? ⟨w.heap.size + 1, 0, none⟩ = some (.string a) := by rw [← hW2]; exact cell_on cB _
  have cC2 : W2.cell? ⟨w.heap.size + 1 + 1, 0, none⟩ = some (.string b) := by rw [← hW2]; exact cell_on cC _
  have cF2 : W2.cell? ⟨W1.heap.size, 0, none⟩ = some (.func (.func 46) #[] #[.pointer (some ⟨w.heap.size, 0, none⟩), .pointer (some ⟨w.heap.size + 1, 0, none⟩), .pointer (some ⟨w.heap.size + 1 + 1, 0, none⟩)]) := box1_cell (w := W1.drew) (by rw [hW2]; exact Below.refl _ _)
  have hD2 := h.below hbb
  have hE2 := he.below (hbb.mono h.size)
  have hoA : w.heap.size ∉ fpOf d m sv F := h.far (Nat.le_refl _)
  have hoB : w.heap.size + 1 ∉ fpOf d m sv F := h.far (by omega)
  have hoC : w.heap.size + 1 + 1 ∉ fpOf d m sv F := h.far (by omega)
  have hoF : W1.heap.size ∉ fpOf d m sv F := h.far (by omega)
  have hlA := World.block_lt_of_cell? W2 _ cA2
  have hlB := World.block_lt_of_cell? W2 _ cB2
  have hlC := World.block_lt_of_cell? W2 _ cC2
  have hlF := World.block_lt_of_cell? W2 _ cF2
  have HO : Hid (Calls Tryd.prog 39 #[.pointer (some ⟨d, 0, none⟩), .string sRename, .string a, .int .i64 c, .func (.func 46) #[] #[.pointer (some ⟨w.heap.size, 0, none⟩), .pointer (some ⟨w.heap.size + 1, 0, none⟩), .pointer (some ⟨w.heap.size + 1 + 1, 0, none⟩)], .func (.func 57) #[] #[.pointer (some ⟨W1.heap.size, 0, none⟩)]] W2 fun e w' => After A B d m sv S F sRename a c (moveP a b (F.map FE.pl)) (fun y => if 1 ≤ y then moveP a b (F.map FE.pl) else F.map FE.pl) W2 e w') := Lib.hid (by
    by_cases hcz : c = 0
    · have hc00 : c0 = 0 := by
        rw [hcz] at hc
        split at hc
        · exact hc
        · cases hc
      rcases hcase with ⟨hne, _⟩ | ⟨_, _, F1, f, F2, rfl, rfl, rfl⟩
      · exact absurd hc00 hne
      · refine operate_after hD2 hE2 hok hn sRename f.name c _ _ _ _ isFn_45 isFn_70 _ _ (fun _ _ _ W hW hS => ?_) (fun _ _ y W sv' _ hW hS hM => ?_)
        · exact Rename1_any hW _ _ _ f.name b rfl hbs (by rw [hS.cell hlA hoA]; exact cA2) (by rw [hS.cell hlB hoB]; exact cB2) (by rw [hS.cell hlC hoC]; exact cC2)
        · exact allOr1_any hW _ _ _ (by rw [hS.cell hlF hoF]; exact cF2) isFn_45 _ (Rename1_any hW _ _ _ f.name b rfl hbs (by rw [hS.cell hlA hoA]; exact cA2) (by rw [hS.cell hlB hoB]; exact cB2) (by rw [hS.cell hlC hoC]; exact cC2)) y
    · exact operate_after hD2 hE2 hok hn sRename a c _ _ _ _ isFn_45 isFn_70 _ _ (fun e => absurd e hcz) (fun e => absurd e hcz))
  have HA := Lib.hid (fun e w' (hc : After A B d m sv S F sRename a c (moveP a b (F.map FE.pl)) (fun y => if 1 ≤ y then moveP a b (F.map FE.pl) else F.map FE.pl) W2 e w') => After.ahead hbb hc)
  have HW1 := Lib.hid hW1
  have HW2 := Lib.hid hW2
  have cAd : W1.drew.cell? ⟨w.heap.size, 0, none⟩ = some (.pointer (some ⟨d, 0, none⟩)) := cA
  have cBd : W1.drew.cell? ⟨w.heap.size + 1, 0, none⟩ = some (.string a) := cB
  obtain ⟨q, hq⟩ : ∃ q, isNm b = q := ⟨_, rfl⟩
  rw [hq] at HN hc
  clear h he hok hn has hbs hlook hc0 hcase hb1 hz1 hb2 hbb cC2 cF2 hD2 hE2 hoA hoB hoC hoF hlA hlB hlC hlF hW1 hW2 hq
  cases q with
  | true =>
    rw [if_pos rfl] at hc
    subst hc
    go_enter Tryd.func23, Tryd.ntmps23
    go_upto_region 1 with fail
    rw [HW1.out]
    go_wp2_with (first | (go_at_call 40; refine HL.out.mono ?_; rintro e w2 ⟨rfl, hw2⟩; subst w2) | (go_at_call 33; refine HN.out.mono ?_; rintro e w2 ⟨rfl, hw2⟩; subst w2))
    --R RenameA--
    refine wp_region_N 6 (fun X => X = W1.drew ∨ X = W2) (by kernel_rfl) ?_
    refine wpAnyN_take (i := 0) (oi := { dst := some 20, op := Go.Op.load 24 (Go.Operand.tmp 3), type := 24, pos := "operate.go:70", after := #[], guard := none }) (oL := { dst := some 26, op := Go.Op.call { callee := Go.Callee.value (Go.Operand.func 39), args := #[Go.Operand.tmp 20, Go.Operand.const (Go.Value.string { data := #[114, 101, 110, 97, 109, 101] }), Go.Operand.tmp 21, Go.Operand.tmp 22, Go.Operand.tmp 23, Go.Operand.tmp 25], argTypes := #[24, 9, 9, 51, 1, 75] }, type := 26, pos := "operate.go:70", after := #[{ on := 0, ground := Go.Ground.data }, { on := 1, ground := Go.Ground.data }, { on := 2, ground := Go.Ground.data }, { on := 3, ground := Go.Ground.data }, { on := 5, ground := Go.Ground.data }, { on := 5, ground := Go.Ground.chain }], guard := none }) (v := .pointer (some ⟨d, 0, none⟩)) rfl rfl (by kernel_rfl) (by kernel_rfl) (by kernel_rfl) (by kernel_rfl) (fun _ _ _ h => h) (Or.inl ⟨by kernel_rfl, ?_⟩) (.inl rfl) ?_
    · (intro X hX; rcases hX with rfl | rfl <;> (go_simp; try (with_reducible rfl)))
    (try simp only [Act.put, List.setIfInBounds_toArray, List.set_cons_zero, List.set_cons_succ])
    refine wpAnyN_take (i := 1) (oi := { dst := some 21, op := Go.Op.load 9 (Go.Operand.tmp 4), type := 9, pos := "operate.go:70", after := #[], guard := none }) (oL := { dst := some 26, op := Go.Op.call { callee := Go.Callee.value (Go.Operand.func 39), args := #[Go.Operand.tmp 20, Go.Operand.const (Go.Value.string { data := #[114, 101, 110, 97, 109, 101] }), Go.Operand.tmp 21, Go.Operand.tmp 22, Go.Operand.tmp 23, Go.Operand.tmp 25], argTypes := #[24, 9, 9, 51, 1, 75] }, type := 26, pos := "operate.go:70", after := #[{ on := 0, ground := Go.Ground.data }, { on := 1, ground := Go.Ground.data }, { on := 2, ground := Go.Ground.data }, { on := 3, ground := Go.Ground.data }, { on := 5, ground := Go.Ground.data }, { on := 5, ground := Go.Ground.chain }], guard := none }) (v := .string a) rfl rfl (by kernel_rfl) (by kernel_rfl) (by kernel_rfl) (by kernel_rfl) (fun _ _ _ h => h) (Or.inl ⟨by kernel_rfl, ?_⟩) (.inl rfl) ?_
    · (intro X hX; rcases hX with rfl | rfl <;> (go_simp; try (with_reducible rfl)))
    (try simp only [Act.put, List.setIfInBounds_toArray, List.set_cons_zero, List.set_cons_succ])
    refine wpAnyN_take (i := 2) (oi := { dst := some 22, op := Go.Op.move (Go.Operand.tmp 8), type := 51, pos := "operate.go:70", after := #[], guard := none }) (oL := { dst := some 26, op := Go.Op.call { callee := Go.Callee.value (Go.Operand.func 39), args := #[Go.Operand.tmp 20, Go.Operand.const (Go.Value.string { data := #[114, 101, 110, 97, 109, 101] }), Go.Operand.tmp 21, Go.Operand.tmp 22, Go.Operand.tmp 23, Go.Operand.tmp 25], argTypes := #[24, 9, 9, 51, 1, 75] }, type := 26, pos := "operate.go:70", after := #[{ on := 0, ground := Go.Ground.data }, { on := 1, ground := Go.Ground.data }, { on := 2, ground := Go.Ground.data }, { on := 3, ground := Go.Ground.data }, { on := 5, ground := Go.Ground.data }, { on := 5, ground := Go.Ground.chain }], guard := none }) (v := .int .i64 c0) rfl rfl (by kernel_rfl) (by kernel_rfl) (by kernel_rfl) (by kernel_rfl) (fun _ _ _ h => h) (Or.inl ⟨by kernel_rfl, ?_⟩) (.inl rfl) ?_
    · (intro X hX; rcases hX with rfl | rfl <;> (go_simp; try (with_reducible rfl)))
    (try simp only [Act.put, List.setIfInBounds_toArray, List.set_cons_zero, List.set_cons_succ])
    refine wpAnyN_take (i := 3) (oi := { dst := some 23, op := Go.Op.move (Go.Operand.tmp 9), type := 1, pos := "operate.go:70", after := #[], guard := none }) (oL := { dst := some 26, op := Go.Op.call { callee := Go.Callee.value (Go.Operand.func 39), args := #[Go.Operand.tmp 20, Go.Operand.const (Go.Value.string { data := #[114, 101, 110, 97, 109, 101] }), Go.Operand.tmp 21, Go.Operand.tmp 22, Go.Operand.tmp 23, Go.Operand.tmp 25], argTypes := #[24, 9, 9, 51, 1, 75] }, type := 26, pos := "operate.go:70", after := #[{ on := 0, ground := Go.Ground.data }, { on := 1, ground := Go.Ground.data }, { on := 2, ground := Go.Ground.data }, { on := 3, ground := Go.Ground.data }, { on := 5, ground := Go.Ground.data }, { on := 5, ground := Go.Ground.chain }], guard := none }) (v := .func (.func 46) #[] #[.pointer (some ⟨w.heap.size, 0, none⟩), .pointer (some ⟨w.heap.size + 1, 0, none⟩), .pointer (some ⟨w.heap.size + 1 + 1, 0, none⟩)]) rfl rfl (by kernel_rfl) (by kernel_rfl) (by kernel_rfl) (by kernel_rfl) (fun _ _ _ h => h) (Or.inl ⟨by kernel_rfl, ?_⟩) (.inl rfl) ?_
    · (intro X hX; rcases hX with rfl | rfl <;> (go_simp; try (with_reducible rfl)))
    (try simp only [Act.put, List.setIfInBounds_toArray, List.set_cons_zero, List.set_cons_succ])
    refine wpAnyN_take (i := 4) (oi := { dst := some 24, op := Go.Op.move (Go.Operand.tmp 9), type := 1, pos := "operate.go:70", after := #[], guard := none }) (oL := { dst := some 26, op := Go.Op.call { callee := Go.Callee.value (Go.Operand.func 39), args := #[Go.Operand.tmp 20, Go.Operand.const (Go.Value.string { data := #[114, 101, 110, 97, 109, 101] }), Go.Operand.tmp 21, Go.Operand.tmp 22, Go.Operand.tmp 23, Go.Operand.tmp 25], argTypes := #[24, 9, 9, 51, 1, 75] }, type := 26, pos := "operate.go:70", after := #[{ on := 0, ground := Go.Ground.data }, { on := 1, ground := Go.Ground.data }, { on := 2, ground := Go.Ground.data }, { on := 3, ground := Go.Ground.data }, { on := 5, ground := Go.Ground.data }, { on := 5, ground := Go.Ground.chain }], guard := none }) (v := .func (.func 46) #[] #[.pointer (some ⟨w.heap.size, 0, none⟩), .pointer (some ⟨w.heap.size + 1, 0, none⟩), .pointer (some ⟨w.heap.size + 1 + 1, 0, none⟩)]) rfl rfl (by kernel_rfl) (by kernel_rfl) (by kernel_rfl) (by kernel_rfl) (fun _ _ _ h => h) (Or.inl ⟨by kernel_rfl, ?_⟩) (.inl rfl) ?_
    · (intro X hX; rcases hX with rfl | rfl <;> (go_simp; try (with_reducible rfl)))
    (try simp only [Act.put, List.setIfInBounds_toArray, List.set_cons_zero, List.set_cons_succ])
    refine wpAnyN_one (i := 5) (o := { dst := some 25, op := Go.Op.call { callee := Go.Callee.value (Go.Operand.func 45), args := #[Go.Operand.tmp 24], argTypes := #[1] }, type := 75, pos := "operate.go:70", after := #[{ on := 4, ground := Go.Ground.data }], guard := none }) (by kernel_rfl) rfl (fun K hK => ?_)
    go_simp
    refine HAl.out.mono ?_
    rintro e w3 ⟨rfl, hw3⟩
    rw [HW2.out] at hw3
    subst w3
    refine hK.out _ _ (fun _ => (.inr rfl)) ?_
    clear hK K
    (try simp only [Act.put, List.setIfInBounds_toArray, List.set_cons_zero, List.set_cons_succ])
    refine wpAnyN_one (i := 6) (o := { dst := some 26, op := Go.Op.call { callee := Go.Callee.value (Go.Operand.func 39), args := #[Go.Operand.tmp 20, Go.Operand.const (Go.Value.string { data := #[114, 101, 110, 97, 109, 101] }), Go.Operand.tmp 21, Go.Operand.tmp 22, Go.Operand.tmp 23, Go.Operand.tmp 25], argTypes := #[24, 9, 9, 51, 1, 75] }, type := 26, pos := "operate.go:70", after := #[{ on := 0, ground := Go.Ground.data }, { on := 1, ground := Go.Ground.data }, { on := 2, ground := Go.Ground.data }, { on := 3, ground := Go.Ground.data }, { on := 5, ground := Go.Ground.data }, { on := 5, ground := Go.Ground.chain }], guard := none }) (by kernel_rfl) rfl (fun K hK => ?_)
    go_simp
    refine HO.out.mono ?_
    rintro e w4 ⟨r, sv', clk', F', rfl, hA⟩
    have HR := Lib.hid hA
    clear hA
    refine hK.out _ _ (fun e => absurd (e.symm.trans (by kernel_rfl) : false = true) Bool.false_ne_true) ?_
    clear hK K
    (try simp only [Act.put, List.setIfInBounds_toArray, List.set_cons_zero, List.set_cons_succ])
    refine wpAnyN_of_H (S' := fun _ => True) _ _ _ _ (by kernel_rfl) ?_
    refine wpAnyH_take (i := 7) (oi := { dst := some 6, op := Go.Op.assign (Go.Operand.tmp 26), type := 26, pos := "operate.go:70", after := #[{ on := 6, ground := Go.Ground.data }, { on := 6, ground := Go.Ground.chain }, { on := 0, ground := Go.Ground.phase }, { on := 1, ground := Go.Ground.phase }, { on := 2, ground := Go.Ground.phase }, { on := 3, ground := Go.Ground.phase }, { on := 4, ground := Go.Ground.phase }, { on := 5, ground := Go.Ground.phase }, { on := 6, ground := Go.Ground.phase }], guard := none }) (v := r) rfl (by kernel_rfl) (by kernel_rfl) (by kernel_rfl) (fun _ _ _ h => h) (Or.inl ⟨by kernel_rfl, ?_⟩) trivial ?_
    · (intro X hX; go_simp; try (with_reducible rfl))
    (try simp only [Act.put, List.setIfInBounds_toArray, List.set_cons_zero, List.set_cons_succ])
    refine wpAnyH_done (by kernel_rfl) ?_ _
    --E RenameA--
    go_wp2_with fail
    go_ret
    exact HA.out _ _ ⟨r, sv', clk', F', rfl, HR.out⟩
  | false =>
    rw [if_neg (by decide)] at hc
    subst hc
    go_enter Tryd.func23, Tryd.ntmps23
    go_upto_region 1 with fail
    rw [HW1.out]
    go_wp2_with (first | (go_at_call 40; refine HL.out.mono ?_; rintro e w2 ⟨rfl, hw2⟩; subst w2) | (go_at_call 33; refine HN.out.mono ?_; rintro e w2 ⟨rfl, hw2⟩; subst w2))
    --R RenameB--
    refine wp_region_N 6 (fun X => X = W1.drew ∨ X = W2) (by kernel_rfl) ?_
    refine wpAnyN_take (i := 0) (oi := { dst := some 20, op := Go.Op.load 24 (Go.Operand.tmp 3), type := 24, pos := "operate.go:70", after := #[], guard := none }) (oL := { dst := some 26, op := Go.Op.call { callee := Go.Callee.value (Go.Operand.func 39), args := #[Go.Operand.tmp 20, Go.Operand.const (Go.Value.string { data := #[114, 101, 110, 97, 109, 101] }), Go.Operand.tmp 21, Go.Operand.tmp 22, Go.Operand.tmp 23, Go.Operand.tmp 25], argTypes := #[24, 9, 9, 51, 1, 75] }, type := 26, pos := "operate.go:70", after := #[{ on := 0, ground := Go.Ground.data }, { on := 1, ground := Go.Ground.data }, { on := 2, ground := Go.Ground.data }, { on := 3, ground := Go.Ground.data }, { on := 5, ground := Go.Ground.data }, { on := 5, ground := Go.Ground.chain }], guard := none }) (v := .pointer (some ⟨d, 0, none⟩)) rfl rfl (by kernel_rfl) (by kernel_rfl) (by kernel_rfl) (by kernel_rfl) (fun _ _ _ h => h) (Or.inl ⟨by kernel_rfl, ?_⟩) (.inl rfl) ?_
    · (intro X hX; rcases hX with rfl | rfl <;> (go_simp; try (with_reducible rfl)))
    (try simp only [Act.put, List.setIfInBounds_toArray, List.set_cons_zero, List.set_cons_succ])
    refine wpAnyN_take (i := 1) (oi := { dst := some 21, op := Go.Op.load 9 (Go.Operand.tmp 4), type := 9, pos := "operate.go:70", after := #[], guard := none }) (oL := { dst := some 26, op := Go.Op.call { callee := Go.Callee.value (Go.Operand.func 39), args := #[Go.Operand.tmp 20, Go.Operand.const (Go.Value.string { data := #[114, 101, 110, 97, 109, 101] }), Go.Operand.tmp 21, Go.Operand.tmp 22, Go.Operand.tmp 23, Go.Operand.tmp 25], argTypes := #[24, 9, 9, 51, 1, 75] }, type := 26, pos := "operate.go:70", after := #[{ on := 0, ground := Go.Ground.data }, { on := 1, ground := Go.Ground.data }, { on := 2, ground := Go.Ground.data }, { on := 3, ground := Go.Ground.data }, { on := 5, ground := Go.Ground.data }, { on := 5, ground := Go.Ground.chain }], guard := none }) (v := .string a) rfl rfl (by kernel_rfl) (by kernel_rfl) (by kernel_rfl) (by kernel_rfl) (fun _ _ _ h => h) (Or.inl ⟨by kernel_rfl, ?_⟩) (.inl rfl) ?_
    · (intro X hX; rcases hX with rfl | rfl <;> (go_simp; try (with_reducible rfl)))
    (try simp only [Act.put, List.setIfInBounds_toArray, List.set_cons_zero, List.set_cons_succ])
    refine wpAnyN_take (i := 2) (oi := { dst := some 22, op := Go.Op.move (Go.Operand.tmp 8), type := 51, pos := "operate.go:70", after := #[], guard := none }) (oL := { dst := some 26, op := Go.Op.call { callee := Go.Callee.value (Go.Operand.func 39), args := #[Go.Operand.tmp 20, Go.Operand.const (Go.Value.string { data := #[114, 101, 110, 97, 109, 101] }), Go.Operand.tmp 21, Go.Operand.tmp 22, Go.Operand.tmp 23, Go.Operand.tmp 25], argTypes := #[24, 9, 9, 51, 1, 75] }, type := 26, pos := "operate.go:70", after := #[{ on := 0, ground := Go.Ground.data }, { on := 1, ground := Go.Ground.data }, { on := 2, ground := Go.Ground.data }, { on := 3, ground := Go.Ground.data }, { on := 5, ground := Go.Ground.data }, { on := 5, ground := Go.Ground.chain }], guard := none }) (v := .int .i64 90) rfl rfl (by kernel_rfl) (by kernel_rfl) (by kernel_rfl) (by kernel_rfl) (fun _ _ _ h => h) (Or.inl ⟨by kernel_rfl, ?_⟩) (.inl rfl) ?_
    · (intro X hX; rcases hX with rfl | rfl <;> (go_simp; try (with_reducible rfl)))
    (try simp only [Act.put, List.setIfInBounds_toArray, List.set_cons_zero, List.set_cons_succ])
    refine wpAnyN_take (i := 3) (oi := { dst := some 23, op := Go.Op.move (Go.Operand.tmp 9), type := 1, pos := "operate.go:70", after := #[], guard := none }) (oL := { dst := some 26, op := Go.Op.call { callee := Go.Callee.value (Go.Operand.func 39), args := #[Go.Operand.tmp 20, Go.Operand.const (Go.Value.string { data := #[114, 101, 110, 97, 109, 101] }), Go.Operand.tmp 21, Go.Operand.tmp 22, Go.Operand.tmp 23, Go.Operand.tmp 25], argTypes := #[24, 9, 9, 51, 1, 75] }, type := 26, pos := "operate.go:70", after := #[{ on := 0, ground := Go.Ground.data }, { on := 1, ground := Go.Ground.data }, { on := 2, ground := Go.Ground.data }, { on := 3, ground := Go.Ground.data }, { on := 5, ground := Go.Ground.data }, { on := 5, ground := Go.Ground.chain }], guard := none }) (v := .func (.func 46) #[] #[.pointer (some ⟨w.heap.size, 0, none⟩), .pointer (some ⟨w.heap.size + 1, 0, none⟩), .pointer (some ⟨w.heap.size + 1 + 1, 0, none⟩)]) rfl rfl (by kernel_rfl) (by kernel_rfl) (by kernel_rfl) (by kernel_rfl) (fun _ _ _ h => h) (Or.inl ⟨by kernel_rfl, ?_⟩) (.inl rfl) ?_
    · (intro X hX; rcases hX with rfl | rfl <;> (go_simp; try (with_reducible rfl)))
    (try simp only [Act.put, List.setIfInBounds_toArray, List.set_cons_zero, List.set_cons_succ])
    refine wpAnyN_take (i := 4) (oi := { dst := some 24, op := Go.Op.move (Go.Operand.tmp 9), type := 1, pos := "operate.go:70", after := #[], guard := none }) (oL := { dst := some 26, op := Go.Op.call { callee := Go.Callee.value (Go.Operand.func 39), args := #[Go.Operand.tmp 20, Go.Operand.const (Go.Value.string { data := #[114, 101, 110, 97, 109, 101] }), Go.Operand.tmp 21, Go.Operand.tmp 22, Go.Operand.tmp 23, Go.Operand.tmp 25], argTypes := #[24, 9, 9, 51, 1, 75] }, type := 26, pos := "operate.go:70", after := #[{ on := 0, ground := Go.Ground.data }, { on := 1, ground := Go.Ground.data }, { on := 2, ground := Go.Ground.data }, { on := 3, ground := Go.Ground.data }, { on := 5, ground := Go.Ground.data }, { on := 5, ground := Go.Ground.chain }], guard := none }) (v := .func (.func 46) #[] #[.pointer (some ⟨w.heap.size, 0, none⟩), .pointer (some ⟨w.heap.size + 1, 0, none⟩), .pointer (some ⟨w.heap.size + 1 + 1, 0, none⟩)]) rfl rfl (by kernel_rfl) (by kernel_rfl) (by kernel_rfl) (by kernel_rfl) (fun _ _ _ h => h) (Or.inl ⟨by kernel_rfl, ?_⟩) (.inl rfl) ?_
    · (intro X hX; rcases hX with rfl | rfl <;> (go_simp; try (with_reducible rfl)))
    (try simp only [Act.put, List.setIfInBounds_toArray, List.set_cons_zero, List.set_cons_succ])
    refine wpAnyN_one (i := 5) (o := { dst := some 25, op := Go.Op.call { callee := Go.Callee.value (Go.Operand.func 45), args := #[Go.Operand.tmp 24], argTypes := #[1] }, type := 75, pos := "operate.go:70", after := #[{ on := 4, ground := Go.Ground.data }], guard := none }) (by kernel_rfl) rfl (fun K hK => ?_)
    go_simp
    refine HAl.out.mono ?_
    rintro e w3 ⟨rfl, hw3⟩
    rw [HW2.out] at hw3
    subst w3
    refine hK.out _ _ (fun _ => (.inr rfl)) ?_
    clear hK K
    (try simp only [Act.put, List.setIfInBounds_toArray, List.set_cons_zero, List.set_cons_succ])
    refine wpAnyN_one (i := 6) (o := { dst := some 26, op := Go.Op.call { callee := Go.Callee.value (Go.Operand.func 39), args := #[Go.Operand.tmp 20, Go.Operand.const (Go.Value.string { data := #[114, 101, 110, 97, 109, 101] }), Go.Operand.tmp 21, Go.Operand.tmp 22, Go.Operand.tmp 23, Go.Operand.tmp 25], argTypes := #[24, 9, 9, 51, 1, 75] }, type := 26, pos := "operate.go:70", after := #[{ on := 0, ground := Go.Ground.data }, { on := 1, ground := Go.Ground.data }, { on := 2, ground := Go.Ground.data }, { on := 3, ground := Go.Ground.data }, { on := 5, ground := Go.Ground.data }, { on := 5, ground := Go.Ground.chain }], guard := none }) (by kernel_rfl) rfl (fun K hK => ?_)
    go_simp
    refine HO.out.mono ?_
    rintro e w4 ⟨r, sv', clk', F', rfl, hA⟩
    have HR := Lib.hid hA
    clear hA
    refine hK.out _ _ (fun e => absurd (e.symm.trans (by kernel_rfl) : false = true) Bool.false_ne_true) ?_
    clear hK K
    (try simp only [Act.put, List.setIfInBounds_toArray, List.set_cons_zero, List.set_cons_succ])
    refine wpAnyN_of_H (S' := fun _ => True) _ _ _ _ (by kernel_rfl) ?_
    refine wpAnyH_take (i := 7) (oi := { dst := some 6, op := Go.Op.assign (Go.Operand.tmp 26), type := 26, pos := "operate.go:70", after := #[{ on := 6, ground := Go.Ground.data }, { on := 6, ground := Go.Ground.chain }, { on := 0, ground := Go.Ground.phase }, { on := 1, ground := Go.Ground.phase }, { on := 2, ground := Go.Ground.phase }, { on := 3, ground := Go.Ground.phase }, { on := 4, ground := Go.Ground.phase }, { on := 5, ground := Go.Ground.phase }, { on := 6, ground := Go.Ground.phase }], guard := none }) (v := r) rfl (by kernel_rfl) (by kernel_rfl) (by kernel_rfl) (fun _ _ _ h => h) (Or.inl ⟨by kernel_rfl, ?_⟩) trivial ?_
    · (intro X hX; go_simp; try (with_reducible rfl))
    (try simp only [Act.put, List.setIfInBounds_toArray, List.set_cons_zero, List.set_cons_succ])
    refine wpAnyH_done (by kernel_rfl) ?_ _
    --E RenameB--
    go_wp2_with fail
    go_ret
    exact HA.out _ _ ⟨r, sv', clk', F', rfl, HR.out⟩
end Go.Proofs.YtbnicjpkfldcdaaDoor

/- disk: Read, Size, Peek. -/
namespace Go.Proofs.YtbnicjpkfldcdaaDoor
open Go.RowKit Go.Lib

def dataP (n : ByteArray) (P : List PF) : List UInt8 := match P.find? (fun p => decide (p.name = n)) with | none => [] | some p => p.data
def readT (S : DS) (P : List PF) (n : ByteArray) : ByteArray := if S.runs = true ∧ S.due = none ∧ lookC P n = 0 then Proofs.YtbnicjpkfldcdaaDoor.S (dataP n P) else ⟨#[]⟩
theorem isFn_51 : IsFn 41 := isFn_of Tryd.func41 (by kernel_rfl) (by kernel_rfl)
theorem isFn_52 : IsFn 42 := isFn_of Tryd.func42 (by kernel_rfl) (by kernel_rfl)
theorem Read2_any (y : Int) (w : World) : Calls Tryd.prog 42 #[.int .i64 y] w fun e w' => e = .returned (.tuple #[]) ∧ w' = w := by
  go_enter Tryd.func42, Tryd.ntmps42
  go_wp2
  first | refine bodyPost_end (results_none rfl _ _ _) rfl ?_ | refine bodyPost_ret (results_none rfl _ _ _) rfl ?_
  exact ⟨rfl, rfl⟩
theorem conv_nil (w : World) : (convert 69 9 (.slice none 0 0)).run Tryd.prog w = .ok (.string ⟨#[]⟩) w := by kernel_rfl
/-- string(f.data). -/
theorem back_own {w : World} {B : Nat} {v : Value} {l : List UInt8} (h : w.ownsRow B 5 1 v l.length (bc l)) : (convert 69 9 v).run Tryd.prog w = .ok (.string (S l)) w := by
  rcases h.2 with ⟨rfl, h0⟩ | ⟨g, cap, cur, rfl, _, hg, hnc, _, _, htake⟩
  · have : l = [] := List.eq_nil_of_length_eq_zero h0
    subst this
    exact conv_nil w
  · refine back_row w 69 9 5 g l.length cap l rfl Tryd.underlying69 Tryd.underlying5 Tryd.underlying9 (fun j hj => ?_)
    have := h.cells (g := g) rfl j (.int .u8 ((bt l j).toNat : Int)) (by simp [bc, bt, hj])
    have e : (⟨g, 0, none⟩ : Addr).add j = ⟨g, j, none⟩ := by
      unfold Addr.add; split
      · rename_i h; rw [h]
      · simp
    rw [e] at this
    exact this
theorem Read1_any {B d m clk : Nat} {sv : Value} {S : DS} {F1 F2 : List FE} {f : FE} {w : World} (h : DiskAt B d m clk sv S (F1 ++ f :: F2) w) (k0 k1 : Nat) (t : ByteArray) (c0 : w.cell? ⟨k0, 0, none⟩ = some (.pointer (some ⟨f.blk, 0, none⟩))) (c1 : w.cell? ⟨k1, 0, none⟩ = some (.string t)) (z1 : w.frozen? ⟨k1, 0, none⟩ = false) :
    Calls Tryd.prog 41 #[.pointer (some ⟨k0, 0, none⟩), .pointer (some ⟨k1, 0, none⟩)] w fun e w' => e = .returned (.tuple #[]) ∧ w' = w.setCell ⟨k1, 0, none⟩ (.string (Proofs.YtbnicjpkfldcdaaDoor.S f.data)) := by
  obtain ⟨a, c, hsh, ⟨b0, b1, bz⟩⟩ := h.fileC (f := f) (by simp)
  have hcv := back_own (h.files f (by simp)).row
  rw [hsh] at hcv
  clear h hsh
  go_enter Tryd.func41, Tryd.ntmps41
  go_wp2
  first | refine bodyPost_end (results_none rfl _ _ _) rfl ?_ | refine bodyPost_ret (results_none rfl _ _ _) rfl ?_
  exact ⟨rfl, rfl⟩
def sRead : ByteArray := ⟨#[114, 101, 97, 100]⟩
/-- Behind a Read. -/
def AfterRead (A : Whys) (B d m : Nat) (sv : Value) (S : DS) (F : List FE) (n : ByteArray) (w : World) (e : Ending) (w' : World) : Prop :=
  ∃ r, e = .returned (.tuple #[.string (readT S (F.map FE.pl) n), r]) ∧ After A B d m sv S F sRead n (lookC (F.map FE.pl) n) (F.map FE.pl) (fun _ => F.map FE.pl) w (.returned r) w'
def sizeP (n : ByteArray) (P : List PF) : Int := match P.find? (fun p => decide (p.name = n)) with | none => -1 | some p => p.data.length
theorem find_none {F : List FE} {n : ByteArray} (h : ∀ g, g ∈ F → g.name ≠ n) : (F.map FE.pl).find? (fun p => decide (p.name = n)) = none := by
  rw [List.find?_eq_none]
  intro p hp
  obtain ⟨g, hg, rfl⟩ := List.mem_map.1 hp
  simp [FE.pl, h g hg]
theorem dataP_hit {F1 F2 : List FE} {f : FE} {n : ByteArray} (hn : f.name = n) (h1 : ∀ g, g ∈ F1 → g.name ≠ n) : dataP n ((F1 ++ f :: F2).map FE.pl) = f.data := by
  unfold dataP; rw [find_pl hn h1]; rfl
set_option maxHeartbeats 4000000 in
theorem Read_any {A : Whys} {B d m clk : Nat} {sv : Value} {S : DS} {F : List FE} {w : World} (h : DiskAt B d m clk sv S F w) (he : Env A B w) (hok : S.ok) (hn : S.steps < 1000000000) (n : ByteArray) (hns : n.size ≤ 140737488355328) :
    Calls Tryd.prog 17 #[.pointer (some ⟨d, 0, none⟩), .string n] w fun e w' => AfterRead A B d m sv S F n w e w' := by
  obtain ⟨pv, c, hlook, hc, hcase⟩ := look_all h n hns
  obtain ⟨hb1, cA, cB, hz1⟩ := box2_facts w (.string ⟨#[]⟩) (.pointer pv) 9 67
  obtain ⟨W0, hW0⟩ : ∃ W0, w.alloc (.cells #[.string ⟨#[]⟩] 9) = W0 := ⟨_, rfl⟩
  obtain ⟨W1, hW1⟩ : ∃ W1, (w.alloc (.cells #[.string ⟨#[]⟩] 9)).alloc (.cells #[.pointer pv] 67) = W1 := ⟨_, rfl⟩
  simp only [box2] at hb1 cA cB hz1
  rw [hW1] at hb1 cA cB hz1
  have hb0 : Below w.heap.size w W0 := by rw [← hW0]; exact (Below.refl _ _).alloc (Nat.le_refl _) _
  have HL := Lib.hid (hlook W0 (h.below hb0))
  have hD1 := h.below hb1
  have hE1 := he.below (hb1.mono h.size)
  have hoA : w.heap.size ∉ fpOf d m sv F := h.far (Nat.le_refl _)
  have hoB : w.heap.size + 1 ∉ fpOf d m sv F := h.far (by omega)
  have hlA := World.block_lt_of_cell? W1 _ cA
  have hlB := World.block_lt_of_cell? W1 _ cB
  have zA : W1.frozen? ⟨w.heap.size, 0, none⟩ = false := by
    have h1 : W1.heap[w.heap.size]? = some (.cells #[.string ⟨#[]⟩] 9 (0, 0)) := by
      rw [← hW1, Below.heap_alloc _ _ _ (by simp)]; exact heap_alloc_new _ _
    exact frozen_of h1 0
  have HO : Hid (Calls Tryd.prog 39 #[.pointer (some ⟨d, 0, none⟩), .string sRead, .string n, .int .i64 c, .func (.func 41) #[] #[.pointer (some ⟨w.heap.size + 1, 0, none⟩), .pointer (some ⟨w.heap.size, 0, none⟩)], .func (.func 42) #[] #[]] W1 fun e w' => ∃ r, e = .returned r ∧ After A B d m sv S F sRead n c (F.map FE.pl) (fun _ => F.map FE.pl) w (.returned r) w' ∧ w'.cell? ⟨w.heap.size, 0, none⟩ = some (.string (readT S (F.map FE.pl) n))) := Lib.hid (by
    by_cases hok1 : S.runs = true ∧ S.due = none ∧ c = 0
    · obtain ⟨hr, hdue, hc0⟩ := hok1
      have ht : readT S (F.map FE.pl) n = Proofs.YtbnicjpkfldcdaaDoor.S (dataP n (F.map FE.pl)) := by unfold readT; rw [if_pos ⟨hr, hdue, by rw [← hc]; exact hc0⟩]
      rcases hcase with ⟨hne, _⟩ | ⟨_, _, F1, f, F2, rfl, hfn, rfl⟩
      · exact absurd hc0 hne
      · rw [ht, dataP_hit hfn (by rw [← hfn]; exact (names_tail h.names).1)]
        subst hc0
        refine (operate_whole hD1 hr hok hn hdue sRead n _ _ _ _ (fun W W' => W' = W.setCell ⟨w.heap.size, 0, none⟩ (.string (Proofs.YtbnicjpkfldcdaaDoor.S f.data))) isFn_51 (fun W hW hS => Read1_any hW _ _ ⟨#[]⟩ (by rw [hS.cell hlB hoB]; exact cB) (by rw [hS.cell hlA hoA]; exact cA) (by rw [hS.frozen hlA hoA]; exact zA))).mono ?_
        rintro e w' ⟨rfl, W, hW, hS, rfl⟩
        have hWc : W.cell? ⟨w.heap.size, 0, none⟩ = some (.string ⟨#[]⟩) := by rw [hS.cell hlA hoA]; exact cA
        refine ⟨.nilIface, rfl, ⟨.nilIface, sv, clk, _, rfl, ?_, ?_, ?_, fun b hb => .inl hb, .inl ⟨?_, rfl⟩⟩, ?_⟩
        · have en : S.next = S.step.tick := by unfold DS.next; rw [if_pos hr, hdue]
          rw [en]
          exact hW.setCell (p := ⟨w.heap.size, 0, none⟩) hoA _
        · unfold nextF; rw [if_pos hr, hdue, if_pos rfl]
        · exact Stays.setCell (p := ⟨w.heap.size, 0, none⟩) ((Stays.ofBelow hb1).trans hS (fun b hb => .inl hb)) (.inr (Nat.le_refl _)) _
        · unfold errC; rw [if_pos hr, hdue]
        · exact World.cell?_setCell_same' _ _ _ (by rw [hWc]; rfl)
    · have ht : readT S (F.map FE.pl) n = ⟨#[]⟩ := by unfold readT; rw [if_neg (by rw [← hc]; exact hok1)]
      rw [ht]
      refine (operate_after hD1 hE1 hok hn sRead n c _ _ _ _ isFn_51 isFn_52 (F.map FE.pl) (fun _ => F.map FE.pl) (fun a1 a2 a3 => absurd ⟨a2, a3, a1⟩ hok1) (fun _ _ y W sv' _ hW hS hM => ?_)).mono ?_
      · refine (Read2_any y W).mono ?_
        rintro e w' ⟨rfl, rfl⟩
        exact ⟨rfl, Did.refl hW⟩
      · rintro e w' ⟨r, sv', clk', F', rfl, hA⟩
        refine ⟨r, rfl, After.ahead hb1 ⟨r, sv', clk', F', rfl, hA⟩, ?_⟩
        rw [hA.2.2.1.cell hlA hoA]; exact cA)
  have HZ0 : Hid (W0.heap.size = w.heap.size + 1) := Lib.hid (by rw [← hW0]; simp)
  have HW0 := Lib.hid hW0
  have HW1 := Lib.hid hW1
  have HA : Hid (∀ r w', After A B d m sv S F sRead n c (F.map FE.pl) (fun _ => F.map FE.pl) w (.returned r) w' → AfterRead A B d m sv S F n w (.returned (.tuple #[.string (readT S (F.map FE.pl) n), r])) w') := Lib.hid (fun r w' hA => ⟨r, rfl, by rw [← hc]; exact hA⟩)
  clear h he hok hn hns hlook hc hcase hb1 hz1 cA cB hD1 hE1 hoA hoB hlA hlB zA hW0 hW1 hb0
  go_enter Tryd.func17, Tryd.ntmps17
  go_upto_region 2 with fail
  rw [HW0.out]
  go_upto_region 3 with (go_at_call 40; refine HL.out.mono ?_; rintro e w2 ⟨rfl, hw2⟩; subst w2)
  have HW1' : Hid (W0.alloc (.cells #[.pointer pv] 67) = W1) := Lib.hid (by rw [← HW0.out]; exact HW1.out)
  rw [HW1'.out, HZ0.out]
  go_wp2_with (go_at_call 39; refine HO.out.mono ?_; rintro e w4 ⟨r, rfl, hA, ct⟩; have HR := Lib.hid hA; clear hA)
  go_ret2
  exact HA.out _ _ HR.out
end Go.Proofs.YtbnicjpkfldcdaaDoor
