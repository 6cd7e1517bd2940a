/- view: New. -/
import Derived.Test.YtiphbnmnoofpkaaQ16z
namespace Go.Proofs.Ytiphbnmnoofpkaa
open Go.RowKit

/-- A mailbox as it is handed in. -/
structure BX where
  nm : ByteArray
  val : Int
  nx : Int
  hi : Int
  co : Int
  un : Int
  vk : Value
  sb : Bool
def bxA (b : BX) : Array Value := #[.string b.nm, .int .i64 b.val, .int .i64 b.nx, .int .i64 b.hi, .int .i64 b.co, .int .i64 b.un, b.vk, .bool b.sb]
/-- A mail, as it lies in memory. -/
structure MLE where
  s : Int
  u : Int
  m : Int
  fa : Option Addr
  fn : Nat
  fc : Nat
  rc : Bool
  y : Int
  mo : Int
  d : Int
  h : Int
  mi : Int
  se : Int
  z : Int
  raw : ByteArray
def mlA (m : MLE) : Array Value := #[.int .i64 m.s, .int .i64 m.u, .int .i64 m.m, .slice m.fa m.fn m.fc, .bool m.rc, .int .i64 m.y, .int .i64 m.mo, .int .i64 m.d, .int .i64 m.h, .int .i64 m.mi, .int .i64 m.se, .int .i64 m.z, .string m.raw]
def ML0 : MLE := ⟨0, 0, 0, none, 0, 0, false, 0, 0, 0, 0, 0, 0, 0, ⟨#[]⟩⟩
def MailsAt (w : World) (v : Value) (ms : List MLE) : Prop :=
  ∃ a c, v = .slice a ms.length c ∧ (0 < ms.length → ∃ g off, a = some ⟨g, off, none⟩ ∧ g < w.heap.size ∧ ∀ i, i < ms.length → ∀ j u, (mlA (ms.getD i ML0))[j]? = some u → w.cell? ⟨g, off + i * 13 + j, none⟩ = some u)
theorem MailsAt.on {w w' : World} {v : Value} {ms : List MLE} (h : MailsAt w v ms) (hb : Below w.heap.size w w') : MailsAt w' v ms := by
  obtain ⟨a, c, rfl, h⟩ := h
  refine ⟨a, c, rfl, fun hl => ?_⟩
  obtain ⟨g, off, rfl, hg, hc⟩ := h hl
  refine ⟨g, off, rfl, Nat.lt_of_lt_of_le hg hb.size, fun i hi j u hj => ?_⟩
  rw [hb.cell (p := ⟨g, off + i * 13 + j, none⟩) hg]
  exact hc i hi j u hj
theorem comesC_nil_len (us : List Int) : (comesC [] [] us).length ≤ us.length := by
  have := comesC_len [] us []
  simpa using this
theorem newV_at (w : World) (val : Int) : VAt w.heap.size val (.slice none 0 0) (.slice none 0 0) [] [] (w.alloc (.cells #[.bool true, .int .i64 val, .slice none 0 0, .slice none 0 0] 66)) :=
  ⟨heap_new _ _, World.ownsRow_nil _ _ _ _, World.ownsRow_nil _ _ _ _, fun r hr => by cases hr⟩
set_option maxHeartbeats 1000000 in
set_option maxRecDepth 20000 in
theorem New_any (b : BX) (v : Value) (ms : List MLE) (recent : Int) (w : World) (hm : MailsAt w v ms) (hl : ms.length ≤ 1000000) :
    Calls Try.prog 9 #[.agg (bxA b), v, .int .i64 recent] w fun e w' => ∃ P fp, e = .returned (.pointer (some ⟨P, 0, none⟩)) ∧ VW P (newP b.val (ms.map MLE.u) recent) fp w' ∧ Below w.heap.size w w' ∧ ∀ c ∈ fp, w.heap.size ≤ c := by
  obtain ⟨W1, hW1⟩ : ∃ W1, w.alloc (.cells (bxA b) 24) = W1 := ⟨_, rfl⟩
  have h1 : W1.heap[w.heap.size]? = some (.cells (bxA b) 24 (0, 0)) := by rw [← hW1]; exact heap_new _ _
  have hb1 : Below w.heap.size w W1 := by rw [← hW1]; exact (Below.refl _ _).alloc (Nat.le_refl _) _
  have c1 : W1.cell? ⟨w.heap.size, 1, none⟩ = some (.int .i64 b.val) := by unfold bxA at h1; exact cell_of h1 1
  obtain ⟨W3, hW3⟩ : ∃ W3, W1.alloc (.cells #[.bool true, .int .i64 b.val, .slice none 0 0, .slice none 0 0] 66) = W3 := ⟨_, rfl⟩
  have hV3 : VAt W1.heap.size b.val (.slice none 0 0) (.slice none 0 0) [] [] W3 := by rw [← hW3]; exact newV_at _ _
  have hb3 : Below W1.heap.size W1 W3 := by rw [← hW3]; exact (Below.refl _ _).alloc (Nat.le_refl _) _
  have hbw : Below w.heap.size w W3 := hb1.trans (hb3.mono hb1.size)
  obtain ⟨av, kv, hv, hcs⟩ := hm
  subst hv
  have HM := Lib.hid hcs
  have H0 : Hid (VO W1.heap.size b.val [] [] [W1.heap.size] W3 W3) := Lib.hid ⟨_, _, hV3, FO.refl _ _⟩
  have HBW := Lib.hid hbw
  have hwW1 : w.heap.size ≤ W1.heap.size := hb1.size
  have hWW : W1.heap.size < W3.heap.size := lt_of_heap hV3.self
  have HEnd : Hid (∀ w', VO W1.heap.size b.val ((comesC [] [] (ms.map MLE.u)).map (nrE recent)) [] [W1.heap.size] W3 w' → ∃ fp, VW W1.heap.size (newP b.val (ms.map MLE.u) recent) fp w' ∧ Below w.heap.size w w' ∧ ∀ c ∈ fp, w.heap.size ≤ c) := Lib.hid (fun w' ⟨rv, cv, q1, q2⟩ => by
    have e0 : comesP ⟨b.val, [], []⟩ (ms.map MLE.u) = ⟨b.val, [], comesC [] [] (ms.map MLE.u)⟩ := comesP_C _ _
    have hbel : Below w.heap.size W3 w' := Stays.below q2.1 (fun c (hc : c ∈ [W1.heap.size]) => by rw [List.mem_singleton.1 hc]; exact hwW1) hbw.size
    refine ⟨fpV W1.heap.size rv cv ((comesC [] [] (ms.map MLE.u)).map (nrE recent)), ⟨rv, cv, (comesC [] [] (ms.map MLE.u)).map (nrE recent), ?_, ?_, rfl⟩, hbw.trans hbel, fun c hc => ?_⟩
    · unfold newP
      rw [e0]
      exact q1
    · unfold newP
      rw [e0]
      show _ = [] ++ (comesC [] [] (ms.map MLE.u)).map (newR recent)
      rw [List.map_map, List.nil_append]
      rfl
    · rcases q2.2 c hc with e | e
      · rw [List.mem_singleton.1 e]; exact hwW1
      · have := hbw.size; omega)
  clear h1 hb1 hb3 hbw hcs hV3
  generalize hPd : W1.heap.size = P at *
  have HPd := Lib.hid hPd
  clear hPd
  go_enter Try.func9, Try.ntmps9
  go_upto_region 1 with fail
  (try rw [hW1])
  clear hW1
  go_upto_region 2 with fail
  (try rw [hW3])
  (try rw [HPd.out])
  clear hW3 HPd c1
  go_upto_region 3 with fail
  go_loopw [16] (fun i wr => ∃ k : Nat, k ≤ ms.length ∧ i = .int .i64 k ∧ VO P b.val [] (comesC [] [] ((ms.map MLE.u).take k)) [P] W3 wr) (fun i _ => ms.length - (intOf i).toNat)
  case atStart => exact ⟨0, Nat.zero_le _, rfl, H0.out⟩
  case round =>
    obtain ⟨k, hk, rfl, rv1, cv1, q1, f1⟩ := hrel
    by_cases hlt : k < ms.length
    · have hlti : (k : Int) < (ms.length : Int) := by omega
      obtain ⟨g, off, rfl, hg, hcc⟩ := HM.out (by omega)
      have hgw : wr.heap[g]? = w.heap[g]? := by
        rw [f1.keep (Nat.lt_of_lt_of_le hg HBW.out.size) (fun hm => by have := List.mem_singleton.1 hm; omega), HBW.out.block g hg]
      have hcw : ∀ j u, (mlA (ms.getD k ML0))[j]? = some u → wr.cell? ⟨g, off + k * 13 + j, none⟩ = some u := fun j u hj => by
        rw [World.cell?_of_block (a := ⟨g, off + k * 13 + j, none⟩) hgw]
        exact hcc k hlt j u hj
      have hst : (ms.map MLE.u).take (k + 1) = (ms.map MLE.u).take k ++ [(ms.getD k ML0).u] := by
        rw [take_snocI _ k (by simpa using hlt)]
        congr 2
        rw [List.getD_eq_getElem?_getD, List.getElem?_map, List.getD_eq_getElem?_getD, List.getElem?_eq_getElem hlt]
        rfl
      have hcl := comesC_nil_len ((ms.map MLE.u).take k)
      rw [List.length_take, List.length_map] at hcl
      obtain ⟨Y, hY⟩ : ∃ Y, wr.alloc (.cells (mlA (ms.getD k ML0)) 68) = Y := ⟨_, rfl⟩
      have hYn : Y.heap[wr.heap.size]? = some (.cells (mlA (ms.getD k ML0)) 68 (0, 0)) := by rw [← hY]; exact heap_new _ _
      have hbY : Below wr.heap.size wr Y := by rw [← hY]; exact (Below.refl _ _).alloc (Nat.le_refl _) _
      have hqY := q1.on hbY
      have hbZ : Below Y.heap.size Y (Y.alloc (.cells #[.int .i64 (ms.getD k ML0).u] 3)) := (Below.refl _ _).alloc (Nat.le_refl _) _
      have HCm := Lib.hid ((come_any (hqY.on hbZ) (.slice (some ⟨Y.heap.size, 0, none⟩) 1 1) [(ms.getD k ML0).u] (nms_one Y (ms.getD k ML0).u) (fun _ => new_out hqY (fun b hb => by simp [Value.ownBlock] at hb; omega)) (by simp) (by simp; omega)).mono (fun r w' ⟨e1, e2⟩ => (⟨e1, by
        obtain ⟨rv2, cv2, y1, y2⟩ := e2
        rw [hst]
        unfold comesC at y1 ⊢
        rw [List.foldl_append]
        exact ⟨rv2, cv2, y1, ((f1.trans (FO.below hbY)).trans (FO.below hbZ)).trans y2⟩⟩ : _ ∧ VO P b.val [] (comesC [] [] ((ms.map MLE.u).take (k + 1))) [P] W3 w')))
      have x1 : Y.cell? ⟨wr.heap.size, 1, none⟩ = some (.int .i64 (ms.getD k ML0).u) := by unfold mlA at hYn; exact cell_of hYn 1
      have m0 : wr.cell? ⟨g, off + k * 13, none⟩ = some (.int .i64 (ms.getD k ML0).s) := hcw 0 _ rfl
      have m1 : wr.cell? ⟨g, off + k * 13 + 1, none⟩ = some (.int .i64 (ms.getD k ML0).u) := hcw 1 _ rfl
      have m2 : wr.cell? ⟨g, off + k * 13 + 2, none⟩ = some (.int .i64 (ms.getD k ML0).m) := hcw 2 _ rfl
      have m3 : wr.cell? ⟨g, off + k * 13 + 3, none⟩ = some (.slice (ms.getD k ML0).fa (ms.getD k ML0).fn (ms.getD k ML0).fc) := hcw 3 _ rfl
      have m4 : wr.cell? ⟨g, off + k * 13 + 4, none⟩ = some (.bool (ms.getD k ML0).rc) := hcw 4 _ rfl
      have m5 : wr.cell? ⟨g, off + k * 13 + 5, none⟩ = some (.int .i64 (ms.getD k ML0).y) := hcw 5 _ rfl
      have m6 : wr.cell? ⟨g, off + k * 13 + 6, none⟩ = some (.int .i64 (ms.getD k ML0).mo) := hcw 6 _ rfl
      have m7 : wr.cell? ⟨g, off + k * 13 + 7, none⟩ = some (.int .i64 (ms.getD k ML0).d) := hcw 7 _ rfl
      have m8 : wr.cell? ⟨g, off + k * 13 + 8, none⟩ = some (.int .i64 (ms.getD k ML0).h) := hcw 8 _ rfl
      have m9 : wr.cell? ⟨g, off + k * 13 + 9, none⟩ = some (.int .i64 (ms.getD k ML0).mi) := hcw 9 _ rfl
      have m10 : wr.cell? ⟨g, off + k * 13 + 10, none⟩ = some (.int .i64 (ms.getD k ML0).se) := hcw 10 _ rfl
      have m11 : wr.cell? ⟨g, off + k * 13 + 11, none⟩ = some (.int .i64 (ms.getD k ML0).z) := hcw 11 _ rfl
      have m12 : wr.cell? ⟨g, off + k * 13 + 12, none⟩ = some (.string (ms.getD k ML0).raw) := hcw 12 _ rfl
      unfold mlA at hY
      clear q1 f1 hcc hgw hcw hst hYn hbY hqY hbZ hcl
      generalize ms.getD k ML0 = mm at *
      obtain ⟨a1, a2, a3, a4, a5, a6, a7, a8, a9, a10, a11, a12, a13, a14, a15⟩ := mm
      dsimp only [mlA, Nat.add_zero] at m0 m1 m2 m3 m4 m5 m6 m7 m8 m9 m10 m11 m12 hY x1 HCm
      have HY := Lib.hid hY
      clear hY
      go_upto_region 5 with fail
      (try rw [HY.out])
      clear HY
      go_wp2_with (go_at_call 22; refine HCm.out.mono ?_; rintro r w2 ⟨rfl, ho⟩; have HO := Lib.hid ho; clear ho)
      go_roundw
      case rel => exact ⟨k + 1, by omega, by go_num, HO.out⟩
      case measure => simp [intOf]; omega
    · obtain rfl : k = ms.length := by omega
      rw [List.take_of_length_le (by simp)] at q1
      have hcl := comesC_nil_len (ms.map MLE.u)
      rw [List.length_map] at hcl
      have HSe := Lib.hid ((settle_any q1 recent (by simp only [List.length_nil]; omega)).mono (fun r w' ⟨e1, e2⟩ => (⟨e1, by
        obtain ⟨rv2, cv2, y1, y2⟩ := e2
        exact HEnd.out w' ⟨rv2, cv2, y1, f1.trans y2⟩⟩ : _ ∧ ∃ fp, VW P (newP b.val (ms.map MLE.u) recent) fp w' ∧ Below w.heap.size w w' ∧ ∀ c ∈ fp, w.heap.size ≤ c)))
      clear q1 f1 hcl
      go_wp2_with (go_at_call 23; refine HSe.out.mono ?_; rintro r w2 ⟨rfl, ho⟩; have HO := Lib.hid ho; clear ho)
      go_ret
      obtain ⟨fp, hf⟩ := HO.out
      exact ⟨_, fp, rfl, hf⟩
end Go.Proofs.Ytiphbnmnoofpkaa
