/- postbaglaw11: known. -/
import Derived.Test.YtbncaiocmklgnaaGreatDoorV11r
namespace Go.Proofs.YtbncaiocmklgnaaGreatDoor
open Go.RowKit Go.Lib

theorem wpList_load_rowG {P : Program} {ops : Array Oper} {rest : List Oper} {o : Oper} {a : Act} {w : World} {Q : Exit → Act → World → Prop} (ty : TypeId) (x : Operand) (ho : o.op = .load ty x)
    (g : Nat) (hx : a.eval x = .pointer (some ⟨g, 0, none⟩)) (t : TypeId) (cs : Array Value) (fr : Nat × Nat) (d : TypeDesc) (hg : w.heap[g]? = some (.cells cs t fr))
    (hu : P.underlying ty = some d) (hd : (match d with | .struct _ | .array _ _ => true | _ => false) = true) (hi : (P.info? ty).map (·.size) = some cs.size)
    (hw : Region.wanted o (yielded ops a.tmps) = true) (h : wpList P ops Q rest (a.put o.dst (.agg cs)) w) : wpList P ops Q (o :: rest) a w :=
  wpList_step fun K hK => by rw [if_pos hw]; exact wp_load_row ty x ho g hx t cs fr d hg hu hd hi (hK _ _ h)
abbrev inb : ByteArray := ⟨#[73, 78, 66, 79, 88]⟩
theorem inb_wire : (wire (L inb)).2 = 0 := by decide +kernel
abbrev seenB : ByteArray := ⟨#[92, 115, 101, 101, 110]⟩
abbrev workB : ByteArray := ⟨#[119, 111, 114, 107]⟩
abbrev SeenB : ByteArray := ⟨#[92, 83, 101, 101, 110]⟩
theorem two_E : flagsE [seenB, workB] = 0 := by decide +kernel
theorem two_L : flagsL [seenB, workB] = [SeenB, workB] := by decide +kernel
theorem inb_bytes : S (evB 6 inb) = ⟨#[10, 6, 5, 73, 78, 66, 79, 88]⟩ := by decide +kernel
theorem inb_len : (evB 6 inb).length = 8 := by decide +kernel
/-- What known needs of memory. -/
structure Env2 (w : World) : Prop where
  e : Env w
  f : EnvF w
theorem Env2.go {w W : World} (h : Env2 w) (hb : Below w.heap.size w W) : Env2 W := ⟨h.e.on hb, h.f.on hb⟩
theorem Check_inb (w : World) (he : Env w) : Calls Tryz.prog 11 #[.agg (evV 6 10 inb none 0 0)] w fun e w' => e = .returned (.int .i64 0) ∧ Below w.heap.size w w' :=
  Check_of 6 10 inb none 0 0 0 w (fun W hb hW => (held_name w.heap.size 6 inb W (he.on hb) ⟨by decide, by decide⟩ inb_wire hW).mono (fun _ _ ⟨v0, v1, v2, v3, he, p, q, h0, h1, h2, h3, _, _, hb2⟩ => ⟨v0, v1, v2, v3, he, ⟨by rw [h0]; rfl, by rw [h1]; rfl, by rw [h2]; rfl, by rw [h3]; rfl⟩, hb2⟩))
theorem Check_none (w : World) : Calls Tryz.prog 11 #[.agg ev0] w fun e w' => e = .returned (.int .i64 110) ∧ Below w.heap.size w w' :=
  Check_of 0 0 ⟨#[]⟩ none 0 0 110 w (fun W _ hW => (held_0 w.heap.size W hW).mono (fun _ _ ⟨he, hb2⟩ => ⟨.nilFunc, .nilFunc, .nilFunc, .nilFunc, he, ⟨rfl, rfl, rfl, rfl⟩, hb2⟩))
theorem Check_long (a : Option Addr) (c : Nat) (w : World) : Calls Tryz.prog 11 #[.agg #[.int .i64 0, .int .i64 0, .int .i64 0, .int .i64 0, .int .i64 0, .string ⟨#[]⟩, .slice a 17 c, .slice none 0 0, .slice none 0 0, .slice none 0 0, .int .i64 0, .int .i64 0, .int .i64 0, .int .i64 0, .int .i64 0, .int .i64 0, .int .i64 0, .string ⟨#[]⟩]] w fun e w' => e = .returned (.int .i64 2) ∧ Below w.heap.size w w' :=
  Check_of 0 0 ⟨#[]⟩ a 17 c 2 w (fun W _ hW => (held_long w.heap.size 0 0 ⟨#[]⟩ a 17 c W hW (by decide)).mono (fun _ _ ⟨he, hb2⟩ => ⟨.nilFunc, .nilFunc, .nilFunc, .nilFunc, he, ⟨rfl, rfl, rfl, rfl⟩, hb2⟩))
theorem lit_strs (w : World) (a b : ByteArray) : Strs (w.alloc (.cells #[.string a, .string b] 9)) (.slice (some ⟨w.heap.size, 0, none⟩) 2 2) [a, b] := by
  have h := heap_new w (.cells #[.string a, .string b] 9)
  refine .inr ⟨w.heap.size, 0, 2, rfl, by simp, lt_of_heap h, fun i hi => ?_⟩
  have hi : i < 2 := hi
  match i, hi with
  | 0, _ => exact cell_of h 0
  | 1, _ => exact cell_of h 1
theorem Tryz.mk17 (W : World) : Sem.run Tryz.prog (Instr.makeSlice 22 (.int .i64 17) (.int .i64 17)) W = .ok (.slice (some ⟨W.heap.size, 0, none⟩) 17 17) (W.alloc (.cells (Array.replicate 17 (.string ⟨#[]⟩)) 9)) := by kernel_rfl
set_option maxHeartbeats 8000000 in
set_option maxRecDepth 20000 in
theorem known_any (w : World) (he : Env2 w) : Calls Tryz.prog 6 #[] w fun e w' => e = .returned (.bool true) ∧ Below w.heap.size w w' := by
  obtain ⟨W1, hW1⟩ : ∃ W1, (w.alloc (.cells ev0 35)).setRow w.heap.size (evV 6 10 inb none 0 0) = W1 := ⟨_, rfl⟩
  have C1 : Hid (KB w [(w.heap.size, .cells (evV 6 10 inb none 0 0) 35 (0, 0))] W1) := Lib.hid (by rw [← hW1]; exact KB.boxed ⟨Below.refl _ _, fun x hx => by cases hx⟩ _ _ _)
  have HE := Lib.hid he
  have HEn : Hid (∀ W, Below w.heap.size w W → Calls Tryz.prog 12 #[.agg (evV 6 10 inb none 0 0)] W fun e w' => e = .returned (.tuple #[.string ⟨#[10, 6, 5, 73, 78, 66, 79, 88]⟩, .int .i64 0]) ∧ Below W.heap.size W w') := Lib.hid (fun W hW => by rw [← inb_bytes]; exact Encode_name 6 inb W (he.e.on hW) ⟨by decide, by decide⟩ inb_wire (by decide))
  have HDe : Hid (∀ W, Below w.heap.size w W → Calls Tryz.prog 16 #[.string ⟨#[10, 6, 5, 73, 78, 66, 79, 88]⟩] W fun e w' => e = .returned (.tuple #[.agg (evV 6 10 inb none 0 0), .int .i64 0]) ∧ Below W.heap.size W w') := Lib.hid (fun W hW => by rw [← inb_bytes]; exact Decode_name 6 inb W (he.e.on hW) ⟨by decide, by decide⟩ inb_wire (by decide))
  have HFl : Hid (∀ W, Below w.heap.size w W → Calls Tryz.prog 7 #[.slice (some ⟨W.heap.size, 0, none⟩) 2 2] (W.alloc (.cells #[.string seenB, .string workB] 9)) fun e w' => ∃ vo, e = .returned (.tuple #[vo, .int .i64 0]) ∧ Strs w' vo [SeenB, workB] ∧ Below W.heap.size W w') := Lib.hid (fun W hW => by
    have hb1 : Below W.heap.size W (W.alloc (.cells #[.string seenB, .string workB] 9)) := below_box (Below.refl _ _) _
    have h1 := Flags_any _ [seenB, workB] _ (he.f.on (hW.trans (hb1.mono hW.size))) (lit_strs W seenB workB) (fun i hi => by
      have hi : i < 2 := hi
      match i, hi with
      | 0, _ => decide
      | 1, _ => decide)
    rw [two_E, two_L] at h1
    exact h1.mono (fun e w' ⟨vo, q1, q2⟩ => ⟨vo, q1, q2.strs (by decide), hb1.trans (q2.below.mono hb1.size)⟩))
  have HEv := Lib.hid (fun W => events_same 6 10 inb W)
  have HCh := Lib.hid (fun W (hW : Below w.heap.size w W) => Check_inb W (he.e.on hW))
  have HSi : Hid (∀ W, Below w.heap.size w W → Calls Tryz.prog 13 #[.agg (evV 6 10 inb none 0 0)] W fun e w' => e = .returned (.int .i64 8) ∧ Below W.heap.size W w') := Lib.hid (fun W hW => by
    have := Size_name 6 inb W (he.e.on hW) ⟨by decide, by decide⟩ inb_wire (by decide)
    rw [inb_len] at this
    exact this)
  have hmk := Tryz.mk17
  clear he
  go_enter Tryz.func6, Tryz.ntmps6
  go_upto_region 2 with (refine wpList_store_row rfl 35 _ _ rfl w.heap.size (evV 6 10 inb none 0 0) rfl rfl 35 _ (heap_new _ _) (Tryz.sizeEv 6 10 inb none 0 0) rfl (ev_one _ _ _ _ _ _) ?_)
  rw [hW1]
  clear hW1
  go_upto_region 3 with (first | (refine wpList_load_row rfl 35 _ rfl w.heap.size rfl 35 _ (0, 0) _ (C1.out.kept (w.heap.size, _) List.mem_cons_self) Tryz.underlying35 rfl (Tryz.sizeEv 6 10 inb none 0 0) ?_) | (go_at_call 12; refine (HEn.out _ C1.out.below).mono ?_; rintro e w2 ⟨rfl, hb⟩; have C2 := Lib.hid (C1.out.go hb); clear hb))
  go_upto_region 4 with (first | (go_at_call 16; refine (HDe.out _ C2.out.below).mono ?_; rintro e w3 ⟨rfl, hb⟩; have C3 := Lib.hid (C2.out.go hb); clear hb) | (refine wpList_store_row rfl 35 _ _ rfl w3.heap.size (evV 6 10 inb none 0 0) rfl rfl 35 _ (heap_new _ _) (Tryz.sizeEv 6 10 inb none 0 0) rfl (ev_one _ _ _ _ _ _) ?_))
  obtain ⟨W4, hW4⟩ : ∃ W4, (w3.alloc (.cells ev0 35)).setRow w3.heap.size (evV 6 10 inb none 0 0) = W4 := ⟨_, rfl⟩
  rw [hW4]
  have C4 := Lib.hid (C3.out.boxed ev0 35 (evV 6 10 inb none 0 0))
  rw [hW4] at C4
  clear hW4 C3 C2 C1
  go_upto_region 5 with (go_at_call 7; refine (HFl.out _ C4.out.below).mono ?_; rintro e w5 ⟨vo, rfl, hs5, hb⟩; have C5 := Lib.hid (C4.out.go hb); have S5 := Lib.hid hs5; obtain ⟨ao, cap, hsh⟩ := hs5.shape; subst hsh; clear hb hs5)
  go_wp2_with (first | (go_at_call 17; refine (HEv.out _).mono ?_; rintro e w6 ⟨rfl, hb⟩; have C6 := Lib.hid (C5.out.go hb); have S6 := Lib.hid (S5.out.on hb); clear hb) | (go_at_call 8; refine (texts_eq (S6.out.on (below_box (Below.refl _ _) _)) (lit_strs w6 SeenB workB) (by decide)).mono ?_; rintro e w7 ⟨rfl, hb⟩; have C7 := Lib.hid ((C6.out.go (below_box (Below.refl _ _) _)).go hb); clear hb) | (go_at_call 11; first | (have hX := C9; clear hX; refine (Check_long _ _ _).mono ?_; rintro e w10 ⟨rfl, hb⟩; have C10 := Lib.hid ((C9.out.go (below_box (Below.refl _ _) _)).go hb); clear hb) | (have hX := C8; clear hX; refine (Check_none _).mono ?_; rintro e w9 ⟨rfl, hb⟩; have C9 := Lib.hid (C8.out.go hb); clear hb) | (have hX := C7; clear hX; refine (HCh.out _ C7.out.below).mono ?_; rintro e w8 ⟨rfl, hb⟩; have C8 := Lib.hid (C7.out.go hb); clear hb)) | (go_at_call 13; refine (HSi.out _ C10.out.below).mono ?_; rintro e w11 ⟨rfl, hb⟩; have C11 := Lib.hid (C10.out.go hb); clear hb) | (have hX := C10; clear hX; refine wpList_load_rowG 35 _ rfl w.heap.size rfl 35 _ (0, 0) _ (C10.out.kept (w.heap.size, _) (List.mem_cons_of_mem _ List.mem_cons_self)) Tryz.underlying35 rfl (Tryz.sizeEv 6 10 inb none 0 0) (by kernel_rfl) ?_) | (have hX := C7; clear hX; refine wpList_load_rowG 35 _ rfl w.heap.size rfl 35 _ (0, 0) _ (C7.out.kept (w.heap.size, _) (List.mem_cons_of_mem _ List.mem_cons_self)) Tryz.underlying35 rfl (Tryz.sizeEv 6 10 inb none 0 0) (by kernel_rfl) ?_) | (have hX := C5; clear hX; refine wpList_load_rowG 35 _ rfl w3.heap.size rfl 35 _ (0, 0) _ (C5.out.kept (w3.heap.size, _) List.mem_cons_self) Tryz.underlying35 rfl (Tryz.sizeEv 6 10 inb none 0 0) (by kernel_rfl) ?_) | (have hX := C5; clear hX; refine wpList_load_rowG 35 _ rfl w.heap.size rfl 35 _ (0, 0) _ (C5.out.kept (w.heap.size, _) (List.mem_cons_of_mem _ List.mem_cons_self)) Tryz.underlying35 rfl (Tryz.sizeEv 6 10 inb none 0 0) (by kernel_rfl) ?_))
  go_ret
  exact ⟨rfl, C11.out.below⟩
end Go.Proofs.YtbncaiocmklgnaaGreatDoor
