/- event: bytes of an event with a name: appendNumber, appendText, the part's write; Encode, Size, Check. -/
import Derived.Test.YtbncaiocmklgnaaGreatDoorV11l
namespace Go.Proofs.YtbncaiocmklgnaaGreatDoor
open Go.RowKit Go.Lib

set_option maxHeartbeats 1000000 in
theorem appendNumber_small {B : Nat} {v : Value} {l : List UInt8} {W0 w : World} (h : Own B v l W0 w) (hl : l.length ≤ 1000) (b : UInt8) (hb : b.toNat ≤ 127) :
    Calls Tryz.prog 28 #[v, .int .i64 (b.toNat : Int)] w fun e w' => ∃ v', e = .returned v' ∧ Own B v' (l ++ [b]) W0 w' := by
  obtain ⟨a, c, rfl⟩ := h.shape
  obtain ⟨n, hn⟩ : ∃ n, b.toNat = n := ⟨_, rfl⟩
  have h1 : ¬ 127 < (n : Int) := by omega
  have hw : IntKind.u8.wrap (n : Int) = (n : Int) := by simp only [IntKind.wrap, IntKind.signed, IntKind.bits]; simp; omega
  have HO := Lib.hid h
  have HN := Lib.hid hn
  have hl2 : l.length + 1 ≤ 140737488355328 := by omega
  rw [hn]
  clear h hn hb hl
  go_enter Tryz.func28, Tryz.ntmps28
  go_wp2_with fail
  go_loopw [0, 1] (fun v0 v1 wr => ∃ (X : World), X = wr ∧ v0 = .slice a l.length c ∧ v1 = .int .i64 (n : Int) ∧ X = w) (fun _ _ _ => 0)
  case atStart => exact ⟨_, rfl, rfl, rfl, rfl⟩
  case round =>
    obtain ⟨X, hX, rfl, rfl, hw'⟩ := hrel
    subst hX
    subst hw'
    go_wp2_with (at_builtin; refine app1 rfl _ _ rfl _ b HO.out (by rw [HN.out]) rfl rfl hl2 ?_; intro v' w4 hown2)
    go_ret
    exact ⟨_, rfl, hown2⟩
set_option maxHeartbeats 1000000 in
theorem appendText_small {B : Nat} {v : Value} {l : List UInt8} {W0 w : World} (h : Own B v l W0 w) (hl : l.length ≤ 500) (s : ByteArray) (hs : s.size ≤ 127) :
    Calls Tryz.prog 89 #[v, .string s] w fun e w' => ∃ v', e = .returned v' ∧ Own B v' (l ++ [UInt8.ofNat s.size] ++ L s) W0 w' := by
  have e1 : (UInt8.ofNat s.size).toNat = s.size := by simp; omega
  have HA := Lib.hid (appendNumber_small h (by omega) (UInt8.ofNat s.size) (by rw [e1]; exact hs))
  rw [e1] at HA
  have hl2 : (l ++ [UInt8.ofNat s.size]).length + s.size ≤ 140737488355328 := by simp; omega
  obtain ⟨a, c, rfl⟩ := h.shape
  clear h e1 hl
  generalize l ++ [UInt8.ofNat s.size] = l2 at *
  go_enter Tryz.func89, Tryz.ntmps89
  go_wp2_with (first | (go_at_call 28; refine HA.out.mono ?_; rintro e w2 ⟨v2, rfl, hown⟩; obtain ⟨a2, c2, rfl⟩ := hown.shape) | (at_builtin; refine appS rfl _ _ rfl s hown rfl rfl hl2 ?_; intro v' w4 hown2))
  go_ret
  exact ⟨_, rfl, hown2⟩
set_option maxHeartbeats 1000000 in
theorem name_write {B : Nat} {v : Value} {l : List UInt8} {W0 w : World} (h : Own B v l W0 w) (hl : l.length ≤ 500) (eb p : Nat) (s : ByteArray) (hs : s.size ≤ 127) (hp : w.heap[p]? = some (.cells #[fnV 70 #[]] 106 (0, 0))) (hc : w.cell? ⟨eb, 5, none⟩ = some (.string s)) :
    Calls Tryz.prog 88 #[v, ptr eb, ptr p] w fun e w' => ∃ v', e = .returned v' ∧ Own B v' (l ++ [UInt8.ofNat s.size] ++ L s) W0 w' := by
  have HT := Lib.hid (appendText_small h hl s hs)
  have HA := Lib.hid (at_name eb w)
  have c1 := box1 hp
  obtain ⟨a, c, rfl⟩ := h.shape
  clear h hp hl hs
  generalize l ++ [UInt8.ofNat s.size] ++ L s = l3 at *
  go_enter Tryz.func88, Tryz.ntmps88
  go_wp2_with (first | (go_at_call 70; refine HA.out.mono ?_; rintro e w2 ⟨rfl, hw2⟩; subst w2) | (go_at_call 89; refine HT.out.mono ?_; rintro e w3 ⟨v3, rfl, hown⟩; obtain ⟨a3, c3, rfl⟩ := hown.shape))
  go_ret
  exact ⟨_, rfl, hown⟩
/-- The bytes of an event with a name. -/
def evB (n : UInt8) (s : ByteArray) : List UInt8 := [10, n, UInt8.ofNat s.size] ++ L s
set_option maxHeartbeats 4000000 in
set_option maxRecDepth 20000 in
theorem Encode_name (n : UInt8) (s : ByteArray) (w : World) (he : Env w) (hn : 2 ≤ n.toNat ∧ n.toNat ≤ 127) (hc : (wire (L s)).2 = 0) (hs : s.size ≤ 127) :
    Calls Tryz.prog 12 #[.agg (evV (n.toNat : Int) 10 s none 0 0)] w fun e w' => e = .returned (.tuple #[.string (S (evB n s)), .int .i64 0]) ∧ Below w.heap.size w w' := by
  obtain ⟨W1, hW1⟩ : ∃ W1, w.alloc (.cells (evV (n.toNat : Int) 10 s none 0 0) 35) = W1 := ⟨_, rfl⟩
  have C1 : Hid (KB w [(w.heap.size, .cells (evV (n.toNat : Int) 10 s none 0 0) 35 (0, 0))] W1) := Lib.hid (by rw [← hW1]; exact KB.box ⟨Below.refl _ _, fun x hx => by cases hx⟩ _)
  have HH := Lib.hid (held_name w.heap.size (n.toNat : Int) s W1 (he.go C1.out.below) ⟨by omega, by omega⟩ hc (C1.out.kept (w.heap.size, _) List.mem_cons_self))
  have HX := Lib.hid (And.intro hn hs)
  clear he hc hn hs
  go_enter Tryz.func12, Tryz.ntmps12
  go_upto_region 1 with fail
  (try rw [hW1])
  clear hW1
  go_upto_region 2 with (first | (go_at_call 27; refine HH.out.mono ?_; rintro e w2 ⟨v0, v1, v2, v3, rfl, p, q, rfl, rfl, rfl, rfl, hp, hq, hb⟩; have C2 := Lib.hid ((C1.out.go hb).add hp); clear hp hq hb) | (refine wpList_store_row rfl 64 _ _ rfl w2.heap.size #[fnV 87 #[ptr q, ptr p], fnV 88 #[ptr p], fnV 90 #[ptr p], fnV 92 #[ptr p]] rfl rfl 64 _ (heap_new _ _) Tryz.sizePart rfl (by simp [Value.oneCell']) ?_))
  obtain ⟨W3, hW3⟩ : ∃ W3, (w2.alloc (.cells nil4 64)).setRow w2.heap.size #[fnV 87 #[ptr q, ptr p], fnV 88 #[ptr p], fnV 90 #[ptr p], fnV 92 #[ptr p]] = W3 := ⟨_, rfl⟩
  rw [hW3]
  have C3 := Lib.hid (C2.out.boxed nil4 64 #[fnV 87 #[ptr q, ptr p], fnV 88 #[ptr p], fnV 90 #[ptr p], fnV 92 #[ptr p]])
  rw [hW3] at C3
  clear hW3 C2 HH C1
  have HE : Hid (∀ W, KB w [(w2.heap.size, Obj.cells #[fnV 87 #[ptr q, ptr p], fnV 88 #[ptr p], fnV 90 #[ptr p], fnV 92 #[ptr p]] 64 (0, 0)), (p, Obj.cells #[fnV 70 #[]] 106 (0, 0)), (w.heap.size, Obj.cells (evV (n.toNat : Int) 10 s none 0 0) 35 (0, 0))] W → W.cell? ⟨w.heap.size, 0, none⟩ = some (.int .i64 (n.toNat : Int)) ∧ W.cell? ⟨w.heap.size, 1, none⟩ = some (.int .i64 10) ∧ W.cell? ⟨w.heap.size, 5, none⟩ = some (.string s) ∧ W.cell? ⟨w2.heap.size, 1, none⟩ = some (fnV 88 #[ptr p]) ∧ W.heap[p]? = some (.cells #[fnV 70 #[]] 106 (0, 0))) := Lib.hid (fun W hW => by
    have k1 := ev_cells (hW.kept (w.heap.size, _) (List.mem_cons_of_mem _ (List.mem_cons_of_mem _ List.mem_cons_self)))
    have k2 := part_cells (hW.kept (w2.heap.size, _) List.mem_cons_self)
    exact ⟨k1.1, k1.2.1, k1.2.2.2.2.2.1, k2.2.1, hW.kept (p, _) (List.mem_cons_of_mem _ List.mem_cons_self)⟩)
  have hO0 : Own W3.heap.size (.slice none 0 0) [] W3 W3 := Own.nil (Below.refl _ _) (Nat.le_refl _)
  have HA1 : Hid (Calls Tryz.prog 28 #[.slice none 0 0, .int .i64 10] W3 fun e w' => ∃ v', e = .returned v' ∧ Own W3.heap.size v' [10] W3 w') := Lib.hid (appendNumber_small hO0 (by decide) (10 : UInt8) (by decide))
  have HA2 : Hid (∀ v W, Own W3.heap.size v [10] W3 W → Calls Tryz.prog 28 #[v, .int .i64 (n.toNat : Int)] W fun e w' => ∃ v', e = .returned v' ∧ Own W3.heap.size v' [10, n] W3 w') := Lib.hid (fun v W h => appendNumber_small h (by decide) n HX.out.1.2)
  have HA3 : Hid (∀ v W, Own W3.heap.size v [10, n] W3 W → Calls Tryz.prog 88 #[v, ptr w.heap.size, ptr p] W fun e w' => ∃ v', e = .returned v' ∧ Own W3.heap.size v' (evB n s) W3 w') := Lib.hid (fun v W h => by
    have hk := HE.out W (C3.out.go h.below)
    exact name_write h (by simp) w.heap.size p s HX.out.2 hk.2.2.2.2 hk.2.2.1)
  obtain ⟨a0, a1, _⟩ := HE.out _ C3.out
  obtain ⟨bs, hbs⟩ : ∃ bs, evB n s = bs := ⟨_, rfl⟩
  rw [hbs] at HA3
  have HBS := Lib.hid hbs
  clear hbs
  go_wp2_with (first | (go_at_call 28; (first | (refine (HA2.out _ _ hown).mono ?_; rintro e w5 ⟨v5, rfl, hown5⟩; obtain ⟨x5, y5, rfl⟩ := hown5.shape; obtain ⟨_, _, _, b3, _⟩ := HE.out _ (C3.out.go hown5.below)) | (refine HA1.out.mono ?_; rintro e w4 ⟨v4, rfl, hown⟩; obtain ⟨x4, y4, rfl⟩ := hown.shape; obtain ⟨b0, b1, _⟩ := HE.out _ (C3.out.go hown.below)))) | (go_at_call 88; refine (HA3.out _ _ hown5).mono ?_; rintro e w6 ⟨v6, rfl, hown6⟩; obtain ⟨x6, y6, rfl⟩ := hown6.shape; have hcv := hown6.back; have HB6 := Lib.hid (C3.out.go hown6.below)))
  go_ret2
  exact ⟨by have e := HBS.out; subst e; rfl, HB6.out.below⟩
set_option maxHeartbeats 4000000 in
theorem Size_name (n : UInt8) (s : ByteArray) (w : World) (he : Env w) (hn : 2 ≤ n.toNat ∧ n.toNat ≤ 127) (hc : (wire (L s)).2 = 0) (hs : s.size ≤ 127) :
    Calls Tryz.prog 13 #[.agg (evV (n.toNat : Int) 10 s none 0 0)] w fun e w' => e = .returned (.int .i64 ((evB n s).length : Int)) ∧ Below w.heap.size w w' := by
  obtain ⟨W1, hW1⟩ : ∃ W1, w.alloc (.cells (evV (n.toNat : Int) 10 s none 0 0) 35) = W1 := ⟨_, rfl⟩
  have h1 : W1.heap[w.heap.size]? = some (.cells (evV (n.toNat : Int) 10 s none 0 0) 35 (0, 0)) := by rw [← hW1]; exact heap_new _ _
  have hb1 : Below w.heap.size w W1 := by rw [← hW1]; exact below_box (Below.refl _ _) _
  have HEn := Lib.hid (Encode_name n s W1 (he.go hb1) hn hc hs)
  have H1 := Lib.hid h1
  have HB := Lib.hid hb1
  have hsz : (S (evB n s)).size = (evB n s).length := S_size _
  clear he hc hn hs h1 hb1
  generalize S (evB n s) = bs at *
  generalize (evB n s).length = ln at *
  go_enter Tryz.func13, Tryz.ntmps13
  go_upto_region 1 with fail
  (try rw [hW1])
  clear hW1
  go_wp2_with (first | (refine wpList_load_row rfl 35 _ rfl w.heap.size rfl 35 _ (0, 0) _ H1.out Tryz.underlying35 rfl (Tryz.sizeEv (n.toNat : Int) 10 s none 0 0) ?_) | (go_at_call 12; refine HEn.out.mono ?_; rintro e w2 ⟨rfl, hb⟩; have HB2 := Lib.hid (HB.out.trans (hb.mono HB.out.size)); clear hb))
  go_ret
  exact ⟨rfl, HB2.out⟩
/-- Check, by what held answers. -/
theorem Check_of (n k : Int) (s : ByteArray) (a : Option Addr) (l c : Nat) (r : Int) (w : World)
    (hh : ∀ W, Below w.heap.size w W → W.heap[w.heap.size]? = some (.cells (evV n k s a l c) 35 (0, 0)) → Calls Tryz.prog 27 #[ptr w.heap.size] W fun e w' => ∃ v0 v1 v2 v3, e = .returned (.tuple #[.agg #[v0, v1, v2, v3], .int .i64 r]) ∧ (v0.oneCell' = true ∧ v1.oneCell' = true ∧ v2.oneCell' = true ∧ v3.oneCell' = true) ∧ Below W.heap.size W w') :
    Calls Tryz.prog 11 #[.agg (evV n k s a l c)] w fun e w' => e = .returned (.int .i64 r) ∧ Below w.heap.size w w' := by
  obtain ⟨W1, hW1⟩ : ∃ W1, w.alloc (.cells (evV n k s a l c) 35) = W1 := ⟨_, rfl⟩
  have h1 : W1.heap[w.heap.size]? = some (.cells (evV n k s a l c) 35 (0, 0)) := by rw [← hW1]; exact heap_new _ _
  have hb1 : Below w.heap.size w W1 := by rw [← hW1]; exact below_box (Below.refl _ _) _
  have HH := Lib.hid (hh W1 hb1 h1)
  have HB := Lib.hid hb1
  clear hh h1 hb1
  go_enter Tryz.func11, Tryz.ntmps11
  go_upto_region 1 with fail
  (try rw [hW1])
  clear hW1
  go_wp2_with (first | (go_at_call 27; refine HH.out.mono ?_; rintro e w2 ⟨v0, v1, v2, v3, rfl, hv, hb⟩; have HV := Lib.hid hv; have HB2 := Lib.hid (HB.out.trans (hb.mono HB.out.size)); clear hv hb) | (refine wpList_store_row rfl 64 _ _ rfl w2.heap.size #[v0, v1, v2, v3] rfl rfl 64 _ (heap_new _ _) Tryz.sizePart rfl (by simp [HV.out]) ?_))
  go_ret
  exact ⟨rfl, below_boxed HB2.out _ _⟩
end Go.Proofs.YtbncaiocmklgnaaGreatDoor
