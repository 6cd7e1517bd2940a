/- mirror: asking, of any command. -/
import Derived.Test.YtlmlbcnjohjnlaaDoorN19b
import Derived.Test.YtlmlbcnjohjnlaaDoorM19n
import Derived.Test.YtlmlbcnjohjnlaaDoorVd
namespace Go.Proofs.YtlmlbcnjohjnlaaDoor
open Go.RowKit

/-- What a mirror looks at in a command's cells. -/
structure CmA (cs : Array Value) (tag : ByteArray) (verb : Int) (uid sil : Bool) (sv : Value) : Prop where
  size : cs.size = 49
  one : cs.all (·.oneCell') = true
  tag : cs[0]? = some (.string tag)
  verb : cs[1]? = some (.int .i64 verb)
  uid : cs[2]? = some (.bool uid)
  sil : cs[12]? = some (.bool sil)
  set : cs[9]? = some sv
theorem Tryd.infoRg : (Tryd.prog.info? 91).map (fun i => (i.zero, i.size, i.bytes)) = some (some (.agg #[.int .i64 0, .int .i64 0]), 2, 16) := by kernel_rfl
theorem Tryd.nilAppR (a : Option Addr) (c : Nat) (w : World) : (Builtin.append_ #[25, 25] 25 #[.slice none 0 0, .slice a 0 c]).run Tryd.prog w = .ok (.slice none 0 0) w := by cases a <;> kernel_rfl
def rgCs (l : List Rg) : List Value := l.flatMap fun p => [.int .i64 p.1, .int .i64 p.2]
theorem rgCs_len (l : List Rg) : (rgCs l).length = l.length * 2 := by
  induction l with
  | nil => rfl
  | cons p l ih =>
    simp only [rgCs, List.flatMap_cons, List.length_append] at ih ⊢
    rw [ih]
    simp
    omega
theorem rgCs_get (l : List Rg) (i : Nat) (hi : i < l.length) : (rgCs l)[i * 2]? = some (.int .i64 (l.getD i (0, 0)).1) ∧ (rgCs l)[i * 2 + 1]? = some (.int .i64 (l.getD i (0, 0)).2) := by
  have e : l[i]? = some (l.getD i (0, 0)) := by rw [List.getD_eq_getElem?_getD, List.getElem?_eq_getElem hi]; rfl
  have h := flat_get (fun p : Rg => [Value.int .i64 p.1, .int .i64 p.2]) 2 (fun _ => rfl) l i
  exact ⟨h 0 _ e (by omega), h 1 _ e (by omega)⟩
/-- A set copied: new memory. -/
def SetNew (w w' : World) (sv : Value) (l : List Rg) : Prop := ∃ nb, RgsIn nb w' sv l ∧ ∀ b, b ∈ nb → w.heap.size ≤ b ∧ b < w'.heap.size
theorem set_copy {X : World} {sv : Value} {l : List Rg} (h : Rgs X sv l) (hl : l.length ≤ 1000000) : ∃ a c W1, (Builtin.append_ #[25, 25] 25 #[.slice none 0 0, sv]).run Tryd.prog X = .ok (.slice a l.length c) W1 ∧ Below X.heap.size X W1 ∧ SetNew X W1 (.slice a l.length c) l := by
  rcases h with ⟨rfl, ao, cap, rfl, _⟩ | ⟨b, off, cap, rfl, _, hb, hc⟩
  · exact ⟨none, 0, X, Tryd.nilAppR ao cap X, Below.refl _ _, [], RgsIn.nil, fun _ h => by cases h⟩
  · by_cases h0 : l.length = 0
    · obtain rfl := List.eq_nil_of_length_eq_zero h0
      exact ⟨none, 0, X, Tryd.nilAppR _ cap X, Below.refl _ _, [], RgsIn.nil, fun _ h => by cases h⟩
    have hsrc : Src Tryd.prog 2 25 (.slice (some ⟨b, off, none⟩) l.length cap) l.length (rgCs l) X := Src.ofSlice _ Tryd.underlying25 _ _ _ _ (rgCs_len l) (fun j u hj => by
      have hjl := (List.getElem?_eq_some_iff.1 hj).1
      rw [rgCs_len] at hjl
      rw [Addr.add_lit]
      have hg := rgCs_get l (j / 2) (by omega)
      have hcc := hc (j / 2) (by omega)
      rcases Nat.mod_two_eq_zero_or_one j with e | e
      · have ej : j = j / 2 * 2 := by omega
        rw [ej] at hj ⊢
        rw [hg.1] at hj
        rw [← hj]
        exact hcc.1
      · have ej : j = j / 2 * 2 + 1 := by omega
        rw [ej] at hj ⊢
        rw [hg.2] at hj
        rw [← hj, ← Nat.add_assoc]
        exact hcc.2) (fun u hu => by
      unfold rgCs at hu
      obtain ⟨p, _, hp⟩ := List.mem_flatMap.1 hu
      simp at hp
      rcases hp with rfl | rfl <;> rfl)
    obtain ⟨a, c, W1, h1, h2, h3, h4⟩ := (show RowAt X 91 2 (.slice none 0 0) 0 [] from ⟨by simp, .inl ⟨rfl, rfl⟩⟩).appS (P := Tryd.prog) 25 25 25 _ 16 Tryd.underlying25 Tryd.infoRg rfl _ l.length (rgCs l) hsrc (by omega) (by omega) (by omega)
    rw [Nat.zero_add, List.nil_append] at h2
    rw [Nat.zero_add] at h1 h4
    have hbel : Below X.heap.size X W1 := ⟨h3.os, h3.tape, h3.output, h3.size, fun k hk => h3.block k hk (fun e => by cases e)⟩
    refine ⟨a, c, W1, h1, hbel, ?_⟩
    rcases h2.2 with ⟨e, e0⟩ | ⟨g, o, cap', cur, e, hg, hcp, hs, htk⟩
    · omega
    · have ea : a = some ⟨g, o, none⟩ := by injection e
      subst ea
      refine ⟨[g], ⟨_, c, rfl, fun h => (by cases h), fun _ => ⟨g, o, cur, rfl, by simp, hg, fun i hi => ?_⟩⟩, fun b hb => ?_⟩
      · have hget : ∀ j, j < l.length * 2 → cur[o + j]? = (rgCs l)[j]? := fun j hj => by
          rw [← htk, List.getElem?_take, if_pos hj, List.getElem?_drop]
          simp
        have := rgCs_get l i hi
        rw [Nat.add_assoc, hget _ (by omega), hget _ (by omega)]
        exact this
      · simp at hb
        subst hb
        rcases h4 b rfl with e' | e'
        · cases e'
        · exact ⟨e', lt_of_heap hg⟩
/-- What asking answers. -/
def AskOut (tag : ByteArray) (verb : Int) (uid sil : Bool) (l : List Rg) (w : World) (e : Ending) (w' : World) : Prop := ∃ sv, e = .returned (.agg (akC ⟨tag, verb, uid, verb == 22 && sil, sv⟩)) ∧ Below w.heap.size w w' ∧ SetNew w w' sv (if (verb == 22 && sil) = true then l else [])
set_option maxRecDepth 20000 in
set_option maxHeartbeats 2000000 in
theorem asking_no (cs : Array Value) (tag : ByteArray) (verb : Int) (uid sil : Bool) (sv : Value) (l : List Rg) (w : World) (hc : CmA cs tag verb uid sil sv) (hn : (verb == 22 && sil) = false) :
    Calls Tryd.prog 19 #[.agg cs] w (AskOut tag verb uid sil l w) := by
  obtain ⟨Y0, hY0⟩ : ∃ Y, w.alloc (.cells cs 38) = Y := ⟨_, rfl⟩
  obtain ⟨Y, hY⟩ : ∃ Y, Y0.alloc akZ = Y := ⟨_, rfl⟩
  have z0 : Y0.heap.size = w.heap.size + 1 := by rw [← hY0]; simp
  have b0 : Below w.heap.size w Y0 := by rw [← hY0]; exact (Below.refl _ _).alloc (Nat.le_refl _) _
  have b1 : Below Y0.heap.size Y0 Y := by rw [← hY]; exact (Below.refl _ _).alloc (Nat.le_refl _) _
  have r0 : Y0.heap[w.heap.size]? = some (.cells cs 38 (0, 0)) := by rw [← hY0]; exact heap_new _ _
  have rC := bel_at b1 (by omega) r0
  have c0 : Y.cell? ⟨w.heap.size, 0, none⟩ = some (.string tag) := by rw [cell_of rC]; exact hc.tag
  have c1 : Y.cell? ⟨w.heap.size, 1, none⟩ = some (.int .i64 verb) := by rw [cell_of rC]; exact hc.verb
  have c2 : Y.cell? ⟨w.heap.size, 2, none⟩ = some (.bool uid) := by rw [cell_of rC]; exact hc.uid
  have rZ : Y.heap[Y0.heap.size]? = some akZ := by rw [← hY]; exact heap_new _ _
  obtain ⟨Y2, hY2⟩ : ∃ Y2, Y.alloc (.cells #[.string tag, .int .i64 verb, .bool uid, .bool false, .slice none 0 0] 78) = Y2 := ⟨_, rfl⟩
  have b2 : Below Y.heap.size Y Y2 := by rw [← hY2]; exact (Below.refl _ _).alloc (Nat.le_refl _) _
  have zy : Y.heap.size = Y0.heap.size + 1 := by rw [← hY]; simp
  have rC2 := bel_at b2 (by omega) rC
  have d1 : Y2.cell? ⟨w.heap.size, 1, none⟩ = some (.int .i64 verb) := by rw [cell_of rC2]; exact hc.verb
  have d12 : Y2.cell? ⟨w.heap.size, 12, none⟩ = some (.bool sil) := by rw [cell_of rC2]; exact hc.sil
  have r2 : Y2.heap[Y.heap.size]? = some (.cells #[.string tag, .int .i64 verb, .bool uid, .bool false, .slice none 0 0] 78 (0, 0)) := by rw [← hY2]; exact heap_new _ _
  have RZ2 := Lib.hid (bel_at b2 (by omega) rZ)
  have bb : Below w.heap.size w Y2 := (b0.trans (b1.mono b0.size)).trans (b2.mono (Nat.le_trans b0.size b1.size))
  have BB := Lib.hid bb
  have Zo := Lib.hid (And.intro z0 zy)
  have RZ3 : Hid (Y2.heap[w.heap.size + 1]? = some (.cells #[.string ⟨#[]⟩, .int .i64 0, .bool false, .bool false, .slice none 0 0] 78 (0, 0))) := Lib.hid (by have := RZ2.out; rw [Zo.out.1] at this; exact this)
  have HY0 := Lib.hid hY0
  have HY := Lib.hid hY
  have HY2 := Lib.hid hY2
  have k0 : Y2.cell? ⟨Y.heap.size, 0, none⟩ = some (.string tag) := cell_of r2 0
  have k1 : Y2.cell? ⟨Y.heap.size, 1, none⟩ = some (.int .i64 verb) := cell_of r2 1
  have k2 : Y2.cell? ⟨Y.heap.size, 2, none⟩ = some (.bool uid) := cell_of r2 2
  have k3 : Y2.cell? ⟨Y.heap.size, 3, none⟩ = some (.bool false) := cell_of r2 3
  have k4 : Y2.cell? ⟨Y.heap.size, 4, none⟩ = some (.slice none 0 0) := cell_of r2 4
  have RZ4 := RZ3
  have H1 : Hid ((#[.string tag, .int .i64 verb, .bool uid, .bool false, .slice none 0 0] : Array Value).all (·.oneCell') = true) := Lib.hid (by simp [Value.oneCell'])
  have HN := Lib.hid hn
  have tl : AskOut tag verb uid sil l w (.returned (.agg (akC ⟨tag, verb, uid, false, .slice none 0 0⟩))) (Y2.setRow (w.heap.size + 1) #[.string tag, .int .i64 verb, .bool uid, .bool false, .slice none 0 0]) := by
    refine ⟨.slice none 0 0, by rw [hn], ⟨bb.os, bb.tape, bb.output, by simpa [World.setRow] using bb.size, fun b hb => by rw [setRow_other _ _ _ _ (by omega)]; exact bb.block b hb⟩, ?_⟩
    rw [hn]
    exact ⟨[], RgsIn.nil, fun _ h => by cases h⟩
  have TL := Lib.hid tl
  clear hY0 hY hY2 b0 b1 b2 bb r0 rC rC2 rZ r2 z0 zy hc RZ3 RZ2 tl Zo
  by_cases hv : verb = 22
  · have e22 : (verb == 22) = true := by simp [hv]
    have es : sil = false := by simpa [hv] using hn
    subst es
    clear hn hv
    unfold akZ at HY
    go_enter Tryd.func19, Tryd.ntmps19
    go_upto_region 1 with fail
    rw [HY0.out, HY.out]
    go_upto_region 2 with fail
    (try rw [HY2.out])
    clear HY0 HY HY2 c0 c1 c2
    go_wp2_with (first | (refine wpList_store_row rfl 78 _ _ rfl (w.heap.size + 1) #[.string tag, .int .i64 verb, .bool uid, .bool false, .slice none 0 0] rfl rfl 78 _ RZ4.out Tryd.sizeAk rfl H1.out ?_))
    refine bodyPost_ret (v := .agg (akC ⟨tag, verb, uid, false, .slice none 0 0⟩)) (results_cell_row Tryd.results19 _ _ (w.heap.size + 1) 78 (akC ⟨tag, verb, uid, false, .slice none 0 0⟩) (0, 0) _ rfl (setRow_heap _ _ _ _ _ _ RZ4.out) Tryd.underlying78 rfl Tryd.sizeAk) rfl ?_
    exact TL.out
  · have e22 : (verb == 22) = false := by simp [hv]
    clear hn
    unfold akZ at HY
    go_enter Tryd.func19, Tryd.ntmps19
    go_upto_region 1 with fail
    rw [HY0.out, HY.out]
    go_upto_region 2 with fail
    (try rw [HY2.out])
    clear HY0 HY HY2 c0 c1 c2
    go_wp2_with (first | (refine wpList_store_row rfl 78 _ _ rfl (w.heap.size + 1) #[.string tag, .int .i64 verb, .bool uid, .bool false, .slice none 0 0] rfl rfl 78 _ RZ4.out Tryd.sizeAk rfl H1.out ?_))
    refine bodyPost_ret (v := .agg (akC ⟨tag, verb, uid, false, .slice none 0 0⟩)) (results_cell_row Tryd.results19 _ _ (w.heap.size + 1) 78 (akC ⟨tag, verb, uid, false, .slice none 0 0⟩) (0, 0) _ rfl (setRow_heap _ _ _ _ _ _ RZ4.out) Tryd.underlying78 rfl Tryd.sizeAk) rfl ?_
    exact TL.out
set_option maxRecDepth 20000 in
set_option maxHeartbeats 2000000 in
theorem asking_yes (cs : Array Value) (tag : ByteArray) (uid : Bool) (sa : Option Addr) (sn sc : Nat) (l : List Rg) (w : World) (hc : CmA cs tag 22 uid true (.slice sa sn sc)) (hr : Rgs w (.slice sa sn sc) l) (hl : l.length ≤ 1000000) :
    Calls Tryd.prog 19 #[.agg cs] w (AskOut tag 22 uid true l w) := by
  obtain ⟨verb, hverb⟩ : ∃ v : Int, v = 22 := ⟨_, rfl⟩
  obtain ⟨sil, hsil⟩ : ∃ v : Bool, v = true := ⟨_, rfl⟩
  rw [← hverb, ← hsil] at hc
  obtain ⟨Y0, hY0⟩ : ∃ Y, w.alloc (.cells cs 38) = Y := ⟨_, rfl⟩
  obtain ⟨Y, hY⟩ : ∃ Y, Y0.alloc akZ = Y := ⟨_, rfl⟩
  have z0 : Y0.heap.size = w.heap.size + 1 := by rw [← hY0]; simp
  have b0 : Below w.heap.size w Y0 := by rw [← hY0]; exact (Below.refl _ _).alloc (Nat.le_refl _) _
  have b1 : Below Y0.heap.size Y0 Y := by rw [← hY]; exact (Below.refl _ _).alloc (Nat.le_refl _) _
  have r0 : Y0.heap[w.heap.size]? = some (.cells cs 38 (0, 0)) := by rw [← hY0]; exact heap_new _ _
  have rC := bel_at b1 (by omega) r0
  have c0 : Y.cell? ⟨w.heap.size, 0, none⟩ = some (.string tag) := by rw [cell_of rC]; exact hc.tag
  have c1 : Y.cell? ⟨w.heap.size, 1, none⟩ = some (.int .i64 verb) := by rw [cell_of rC]; exact hc.verb
  have c2 : Y.cell? ⟨w.heap.size, 2, none⟩ = some (.bool uid) := by rw [cell_of rC]; exact hc.uid
  have rZ : Y.heap[Y0.heap.size]? = some akZ := by rw [← hY]; exact heap_new _ _
  obtain ⟨Y2, hY2⟩ : ∃ Y2, Y.alloc (.cells #[.string tag, .int .i64 verb, .bool uid, .bool false, .slice none 0 0] 78) = Y2 := ⟨_, rfl⟩
  have b2 : Below Y.heap.size Y Y2 := by rw [← hY2]; exact (Below.refl _ _).alloc (Nat.le_refl _) _
  have zy : Y.heap.size = Y0.heap.size + 1 := by rw [← hY]; simp
  have rC2 := bel_at b2 (by omega) rC
  have d1 : Y2.cell? ⟨w.heap.size, 1, none⟩ = some (.int .i64 verb) := by rw [cell_of rC2]; exact hc.verb
  have d12 : Y2.cell? ⟨w.heap.size, 12, none⟩ = some (.bool sil) := by rw [cell_of rC2]; exact hc.sil
  have r2 : Y2.heap[Y.heap.size]? = some (.cells #[.string tag, .int .i64 verb, .bool uid, .bool false, .slice none 0 0] 78 (0, 0)) := by rw [← hY2]; exact heap_new _ _
  have RZ2 := Lib.hid (bel_at b2 (by omega) rZ)
  have bb : Below w.heap.size w Y2 := (b0.trans (b1.mono b0.size)).trans (b2.mono (Nat.le_trans b0.size b1.size))
  have BB := Lib.hid bb
  have Zo := Lib.hid (And.intro z0 zy)
  have RZ3 : Hid (Y2.heap[w.heap.size + 1]? = some (.cells #[.string ⟨#[]⟩, .int .i64 0, .bool false, .bool false, .slice none 0 0] 78 (0, 0))) := Lib.hid (by have := RZ2.out; rw [Zo.out.1] at this; exact this)
  have HY0 := Lib.hid hY0
  have HY := Lib.hid hY
  have HY2 := Lib.hid hY2
  subst hverb hsil
  have d9 : Y2.cell? ⟨w.heap.size, 9, none⟩ = some (.slice sa sn sc) := by rw [cell_of rC2]; exact hc.set
  obtain ⟨a, c, W1, hrun, hbel, hnew⟩ := set_copy (hr.on bb) hl
  have rA1 := bel_at hbel (lt_of_heap r2) r2
  have rZ1 := bel_at hbel (lt_of_heap RZ3.out) RZ3.out
  obtain ⟨Y3, hY3⟩ : ∃ Y3, W1.setCell ⟨Y.heap.size, 3, none⟩ (.bool true) = Y3 := ⟨_, rfl⟩
  have rA2 : Y3.heap[Y.heap.size]? = some (.cells #[.string tag, .int .i64 22, .bool uid, .bool true, .slice none 0 0] 78 (0, 0)) := by rw [← hY3, heap_setCell_at _ rA1]; rfl
  obtain ⟨Y4, hY4⟩ : ∃ Y4, Y3.setCell ⟨Y.heap.size, 4, none⟩ (.slice a l.length c) = Y4 := ⟨_, rfl⟩
  have rA3 : Y4.heap[Y.heap.size]? = some (.cells #[.string tag, .int .i64 22, .bool uid, .bool true, .slice a l.length c] 78 (0, 0)) := by rw [← hY4, heap_setCell_at _ rA2]; rfl
  have f3 : W1.frozen? ⟨Y.heap.size, 3, none⟩ = false := frozen_of rA1 3
  have g3 : W1.cell? ⟨Y.heap.size, 3, none⟩ = some (.bool false) := cell_of rA1 3
  have g4w : W1.cell? ⟨Y.heap.size, 4, none⟩ = some (.slice none 0 0) := cell_of rA1 4
  have f4w : W1.frozen? ⟨Y.heap.size, 4, none⟩ = false := frozen_of rA1 4
  have f4 : Y3.frozen? ⟨Y.heap.size, 4, none⟩ = false := frozen_of rA2 4
  have g4 : Y3.cell? ⟨Y.heap.size, 4, none⟩ = some (.slice none 0 0) := cell_of rA2 4
  have k0 : Y4.cell? ⟨Y.heap.size, 0, none⟩ = some (.string tag) := cell_of rA3 0
  have k1 : Y4.cell? ⟨Y.heap.size, 1, none⟩ = some (.int .i64 22) := cell_of rA3 1
  have k2 : Y4.cell? ⟨Y.heap.size, 2, none⟩ = some (.bool uid) := cell_of rA3 2
  have k3 : Y4.cell? ⟨Y.heap.size, 3, none⟩ = some (.bool true) := cell_of rA3 3
  have k4 : Y4.cell? ⟨Y.heap.size, 4, none⟩ = some (.slice a l.length c) := cell_of rA3 4
  have so : ∀ b, b ≠ Y.heap.size → Y4.heap[b]? = W1.heap[b]? := fun b hb => by rw [← hY4, ← hY3, Below.heap_setCell _ _ _ _ hb, Below.heap_setCell _ _ _ _ hb]
  have RZ4 : Hid (Y4.heap[w.heap.size + 1]? = some (.cells #[.string ⟨#[]⟩, .int .i64 0, .bool false, .bool false, .slice none 0 0] 78 (0, 0))) := Lib.hid (by rw [so _ (by omega)]; exact rZ1)
  have s4 : Y4.heap.size = W1.heap.size := by rw [← hY4, ← hY3]; simp [World.setCell]
  have H1 : Hid ((#[.string tag, .int .i64 22, .bool uid, .bool true, .slice a l.length c] : Array Value).all (·.oneCell') = true) := Lib.hid (by simp [Value.oneCell'])
  have tl : AskOut tag 22 uid true l w (.returned (.agg (akC ⟨tag, 22, uid, true, .slice a l.length c⟩))) (Y4.setRow (w.heap.size + 1) #[.string tag, .int .i64 22, .bool uid, .bool true, .slice a l.length c]) := by
    have bw1 := bb.trans (hbel.mono bb.size)
    have o4 : Y4.os = W1.os ∧ Y4.tape = W1.tape ∧ Y4.output = W1.output := by rw [← hY4, ← hY3]; exact ⟨rfl, rfl, rfl⟩
    refine ⟨.slice a l.length c, rfl, ⟨o4.1.trans bw1.os, o4.2.1.trans bw1.tape, o4.2.2.trans bw1.output, by have := bw1.size; simp [World.setRow]; omega, fun b hb => by rw [setRow_other _ _ _ _ (by omega), so b (by omega)]; exact bw1.block b hb⟩, ?_⟩
    obtain ⟨nb, h1, h2⟩ := hnew
    have hy : Y.heap.size < Y2.heap.size := lt_of_heap r2
    refine ⟨nb, h1.on (fun b hb => ?_) (fun _ h => h), fun b hb => ?_⟩
    · have := (h2 b hb).1
      rw [setRow_other _ _ _ _ (by omega), so b (by omega)]
    · have := h2 b hb
      simp [World.setRow]
      omega
  have TL := Lib.hid tl
  have HRun := Lib.hid hrun
  have HY3 := Lib.hid hY3
  have HY4 := Lib.hid hY4
  clear hY0 hY hY2 b0 b1 b2 bb r0 rC rC2 rZ r2 z0 zy hc RZ3 RZ2 tl hrun hbel hnew rA1 rZ1 hY3 rA2 hY4 rA3 so s4 hr hl Zo
  unfold akZ at HY
  go_enter Tryd.func19, Tryd.ntmps19
  go_upto_region 1 with fail
  rw [HY0.out, HY.out]
  go_upto_region 2 with fail
  (try rw [HY2.out])
  clear HY0 HY HY2 c0 c1 c2
  go_upto_region 4 with (first | (refine append_by_run rfl _ _ _ rfl _ rfl _ _ rfl rfl _ _ HRun.out ?_))
  (try rw [HY3.out])
  (try rw [HY4.out])
  go_wp2_with (first | (refine wpList_store_row rfl 78 _ _ rfl (w.heap.size + 1) #[.string tag, .int .i64 22, .bool uid, .bool true, .slice a l.length c] rfl rfl 78 _ RZ4.out Tryd.sizeAk rfl H1.out ?_))
  refine bodyPost_ret (v := .agg (akC ⟨tag, 22, uid, true, .slice a l.length c⟩)) (results_cell_row Tryd.results19 _ _ (w.heap.size + 1) 78 (akC ⟨tag, 22, uid, true, .slice a l.length c⟩) (0, 0) _ rfl (setRow_heap _ _ _ _ _ _ RZ4.out) Tryd.underlying78 rfl Tryd.sizeAk) rfl ?_
  exact TL.out
end Go.Proofs.YtlmlbcnjohjnlaaDoor
