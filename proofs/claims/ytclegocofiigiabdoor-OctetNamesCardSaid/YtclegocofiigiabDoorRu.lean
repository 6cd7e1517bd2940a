/- postbagref1: run, wired. -/
import Derived.Test.YtclegocofiigiabDoorRm
namespace Go.Proofs.YtclegocofiigiabDoor
open Go.RowKit Go.Shelf

/-- A row of bytes that came out of a text, and is written to. -/
def RowB (g : Nat) (l : List UInt8) (W : World) : Prop := ∃ cs : Array Value, W.heap[g]? = some (.cells cs 5 (cs.size, cs.size + 1)) ∧ l.length ≤ cs.size ∧ ∀ j, j < l.length → cs[j]? = some (.int .u8 ((bt l j).toNat : Int))
theorem RowB.cell {g : Nat} {l : List UInt8} {W : World} (h : RowB g l W) (j : Nat) (hj : j < l.length) : W.cell? ⟨g, j, none⟩ = some (.int .u8 ((bt l j).toNat : Int)) := by
  obtain ⟨cs, h1, h2, h3⟩ := h
  rw [cell_of_row W g j cs _ _ h1, h3 j hj]
theorem RowB.frozen {g : Nat} {l : List UInt8} {W : World} (h : RowB g l W) (j : Nat) (hj : j < l.length) : W.frozen? ⟨g, j, none⟩ = false := by
  obtain ⟨cs, h1, h2, h3⟩ := h
  simp [World.frozen?, h1]; omega
theorem RowB.set {g : Nat} {l : List UInt8} {W : World} (h : RowB g l W) (k : Nat) (b : UInt8) (hk : k < l.length) (x : Int) (hx : x = (b.toNat : Int)) : RowB g (l.set k b) (W.setCell ⟨g, k, none⟩ (.int .u8 x)) := by
  subst hx
  obtain ⟨cs, h1, h2, h3⟩ := h
  refine ⟨cs.setIfInBounds k (.int .u8 (b.toNat : Int)), ?_, by simp; exact h2, ?_⟩
  · have := setCell_eq_setRow W g k cs _ _ (.int .u8 (b.toNat : Int)) h1
    rw [this, setRow_heap W g cs _ _ _ h1]
    simp
  · intro j hj
    rw [List.length_set] at hj
    rw [bt_set l k j b hk, Array.getElem?_setIfInBounds]
    by_cases e : k = j
    · subst e; simp; omega
    · rw [if_neg e, if_neg e]; exact h3 j hj
theorem RowB.start (W : World) (x : List UInt8) (cap : Nat) : RowB W.heap.size x (W.drew.alloc (.cells (bytesRow (S x) cap) 5 ((bytesRow (S x) cap).size, (bytesRow (S x) cap).size + 1))) := by
  refine ⟨bytesRow (S x) cap, heap_alloc_new W.drew _, ?_, ?_⟩
  · unfold bytesRow; simp [S]
  · intro j hj
    rw [bytesRow_at (S x) cap j (by simpa [S] using hj)]
    unfold bt
    rw [List.getElem?_eq_getElem hj]
    simp [S]
theorem RowB.startD (W : World) (x : List UInt8) (cap : Nat) : RowB W.heap.size x (W.alloc (.cells (bytesRow (S x) cap) 5 ((bytesRow (S x) cap).size, (bytesRow (S x) cap).size + 1))).drew := RowB.start W x cap
theorem RowB.on {g : Nat} {l : List UInt8} {W W' : World} (h : RowB g l W) (hg : g < W.heap.size) (hb : Below W.heap.size W W') : RowB g l W' := by
  obtain ⟨cs, h1, h2⟩ := h
  exact ⟨cs, by rw [hb.block g hg]; exact h1, h2⟩
theorem RowB.back {g : Nat} {l : List UInt8} {W : World} (h : RowB g l W) (cap : Nat) : (convert 44 9 (.slice (some ⟨g, 0, none⟩) l.length cap)).run Tryd.prog W = .ok (.string (S l)) W :=
  run_convert_bytes_back W 44 9 5 ⟨g, 0, none⟩ cap l Tryd.underlying44 Tryd.underlying5 Tryd.underlying9 (fun j hj => by
    have := h.cell j hj
    have e : (⟨g, 0, none⟩ : Addr).add j = ⟨g, j, none⟩ := by
      unfold Addr.add; split
      · rename_i h; rw [h]
      · simp
    rw [e, this]
    unfold bt; rw [List.getElem?_eq_getElem hj]; rfl)
/-- A row on the way from p to its image. -/
def mid (f : UInt8 → UInt8) (p : List UInt8) (k : Nat) : List UInt8 := (p.take k).map f ++ p.drop k
theorem mid_len (f : UInt8 → UInt8) (p : List UInt8) (k : Nat) : (mid f p k).length = p.length := by unfold mid; simp; omega
theorem mid_zero (f : UInt8 → UInt8) (p : List UInt8) : mid f p 0 = p := rfl
theorem mid_end (f : UInt8 → UInt8) (p : List UInt8) (k : Nat) (h : p.length ≤ k) : mid f p k = p.map f := by
  unfold mid; rw [List.take_of_length_le h, List.drop_eq_nil_of_le h, List.append_nil]
theorem mid_bt (f : UInt8 → UInt8) (p : List UInt8) (k : Nat) (h : k < p.length) : bt (mid f p k) k = bt p k := by
  unfold mid bt
  rw [List.getElem?_append_right (by simp; omega)]
  simp
  have : k - min k p.length = 0 := by omega
  rw [this]; rfl
theorem mid_set (f : UInt8 → UInt8) (p : List UInt8) (k : Nat) (h : k < p.length) : (mid f p k).set k (f (bt p k)) = mid f p (k + 1) := by
  unfold mid
  rw [take_snoc p k h, drop_cons p k h, List.map_append, List.append_assoc]
  have e : ((p.take k).map f).length = k := by simp; omega
  rw [List.set_append_right _ _ (by omega), e, Nat.sub_self]
  rfl
theorem mid_same (f : UInt8 → UInt8) (p : List UInt8) (k : Nat) (h : k < p.length) (hf : f (bt p k) = bt p k) : mid f p (k + 1) = mid f p k := by
  rw [← mid_set f p k h, hf]
  apply List.ext_getElem?
  intro j
  rw [List.getElem?_set]
  by_cases e : k = j
  · subst e
    have := mid_bt f p k h
    unfold bt at this
    rw [if_pos rfl, if_pos (by rw [mid_len]; exact h)]
    have hl : k < (mid f p k).length := by rw [mid_len]; exact h
    rw [List.getElem?_eq_getElem hl] at this ⊢
    rw [List.getElem?_eq_getElem h] at this
    simp at this
    unfold bt
    rw [List.getElem?_eq_getElem h]
    simp [this]
  · rw [if_neg e]

/-- A literal row. -/
theorem litOwn (w : World) (l : List UInt8) (cs : Array Value) (hc : cs.toList = bc l) (hl : l.length ≤ 4) : Own w.heap.size (.slice (some ⟨w.heap.size, 0, none⟩) l.length l.length) l w (w.alloc (.cells cs 5)) := by
  have hcl : cs.size = l.length := by rw [← Array.length_toList, hc, bc_length]
  refine ⟨⟨by rw [bc_length]; simp, .inr ⟨w.heap.size, l.length, cs, rfl, Nat.le_refl _, heap_alloc_new w _, Nat.le_refl _, by unfold maxLen; omega, by omega, ?_⟩⟩, (Below.refl _ _).alloc (Nat.le_refl _) _, by simp⟩
  rw [Nat.mul_one, hc, List.take_of_length_le (by rw [bc_length]; omega)]
theorem u8v (x : Int) (n : Nat) (h : x = ((n % 256 : Nat) : Int)) : x = ((UInt8.ofNat n).toNat : Int) := by
  rw [h]; simp
set_option maxRecDepth 100000 in
set_option maxHeartbeats 1000000 in
theorem utf_any (v : Int) (n : Nat) (w : World) (hv : v = (n : Int)) (hn : n ≤ 1114111) :
    Calls Tryd.prog 72 #[.int .i64 v] w fun e w' => ∃ r, e = .returned r ∧ Own w.heap.size r (utfL n) w w' := by
  have HV := Lib.hid hv
  have h0 : 0 ≤ v := by omega
  have h9 : v ≤ 1114111 := by omega
  by_cases h1 : n < 128
  · have HL : Hid (utfL n = [UInt8.ofNat (n)]) := Lib.hid (by unfold utfL; rw [if_pos h1])
    have hv1 : v < 128 := by omega
    clear hv h1 hn
    go_enter Tryd.func72, Tryd.ntmps72
    go_wp2
    go_ret
    exact ⟨_, rfl, by rw [HL.out]; exact litOwn w [UInt8.ofNat (n)] #[.int .u8 (v)] (by simp only [bc, List.map_cons, List.map_nil]; rw [← u8v (v) (n) (by have := HV.out; omega)]) (by simp)⟩
  · by_cases h2 : n < 2048
    · have HL : Hid (utfL n = [UInt8.ofNat (192 + n / 64), UInt8.ofNat (128 + n % 64)]) := Lib.hid (by unfold utfL; rw [if_neg h1, if_pos h2])
      have hv1 : 128 ≤ v := by omega
      have hv2 : v < 2048 := by omega
      clear hv h1 h2 hn
      go_enter Tryd.func72, Tryd.ntmps72
      go_wp2
      go_ret
      exact ⟨_, rfl, by rw [HL.out]; exact litOwn w [UInt8.ofNat (192 + n / 64), UInt8.ofNat (128 + n % 64)] #[.int .u8 (192 + v / 64), .int .u8 (128 + v % 64)] (by simp only [bc, List.map_cons, List.map_nil]; rw [← u8v (192 + v / 64) (192 + n / 64) (by have := HV.out; omega), ← u8v (128 + v % 64) (128 + n % 64) (by have := HV.out; omega)]) (by simp)⟩
    · by_cases h3 : n < 65536
      · have HL : Hid (utfL n = [UInt8.ofNat (224 + n / 4096), UInt8.ofNat (128 + n / 64 % 64), UInt8.ofNat (128 + n % 64)]) := Lib.hid (by unfold utfL; rw [if_neg h1, if_neg h2, if_pos h3])
        have hv1 : 2048 ≤ v := by omega
        have hv2 : v < 65536 := by omega
        clear hv h1 h2 h3 hn
        go_enter Tryd.func72, Tryd.ntmps72
        go_wp2
        go_ret
        exact ⟨_, rfl, by rw [HL.out]; exact litOwn w [UInt8.ofNat (224 + n / 4096), UInt8.ofNat (128 + n / 64 % 64), UInt8.ofNat (128 + n % 64)] #[.int .u8 (224 + v / 4096), .int .u8 (128 + v / 64 % 64), .int .u8 (128 + v % 64)] (by simp only [bc, List.map_cons, List.map_nil]; rw [← u8v (224 + v / 4096) (224 + n / 4096) (by have := HV.out; omega), ← u8v (128 + v / 64 % 64) (128 + n / 64 % 64) (by have := HV.out; omega), ← u8v (128 + v % 64) (128 + n % 64) (by have := HV.out; omega)]) (by simp)⟩
      · have HL : Hid (utfL n = [UInt8.ofNat (240 + n / 262144), UInt8.ofNat (128 + n / 4096 % 64), UInt8.ofNat (128 + n / 64 % 64), UInt8.ofNat (128 + n % 64)]) := Lib.hid (by unfold utfL; rw [if_neg h1, if_neg h2, if_neg h3])
        have hv1 : 65536 ≤ v := by omega
        clear hv h1 h2 h3 hn
        go_enter Tryd.func72, Tryd.ntmps72
        go_wp2
        go_ret
        exact ⟨_, rfl, by rw [HL.out]; exact litOwn w [UInt8.ofNat (240 + n / 262144), UInt8.ofNat (128 + n / 4096 % 64), UInt8.ofNat (128 + n / 64 % 64), UInt8.ofNat (128 + n % 64)] #[.int .u8 (240 + v / 262144), .int .u8 (128 + v / 4096 % 64), .int .u8 (128 + v / 64 % 64), .int .u8 (128 + v % 64)] (by simp only [bc, List.map_cons, List.map_nil]; rw [← u8v (240 + v / 262144) (240 + n / 262144) (by have := HV.out; omega), ← u8v (128 + v / 4096 % 64) (128 + n / 4096 % 64) (by have := HV.out; omega), ← u8v (128 + v / 64 % 64) (128 + n / 64 % 64) (by have := HV.out; omega), ← u8v (128 + v % 64) (128 + n % 64) (by have := HV.out; omega)]) (by simp)⟩

set_option maxRecDepth 100000 in
set_option maxHeartbeats 1000000 in
theorem units_any (v : Int) (n : Nat) (w : World) (hv : v = (n : Int)) (hn : n ≤ 1114111) :
    Calls Tryd.prog 77 #[.int .i64 v] w fun e w' => ∃ r, e = .returned r ∧ Own w.heap.size r (pairOf n) w w' := by
  have HV := Lib.hid hv
  have h0 : 0 ≤ v := by omega
  have h9 : v ≤ 1114111 := by omega
  by_cases h1 : n < 65536
  · have HL : Hid (pairOf n = [UInt8.ofNat (n / 256), UInt8.ofNat (n)]) := Lib.hid (by unfold pairOf; rw [if_neg (by omega)]; rfl)
    have hv1 : v < 65536 := by omega
    clear hv h1 hn
    go_enter Tryd.func77, Tryd.ntmps77
    go_wp2
    go_ret
    exact ⟨_, rfl, by rw [HL.out]; exact litOwn w [UInt8.ofNat (n / 256), UInt8.ofNat (n)] #[.int .u8 (v / 256), .int .u8 (v % 256)] (by simp only [bc, List.map_cons, List.map_nil]; rw [← u8v (v / 256) (n / 256) (by have := HV.out; omega), ← u8v (v % 256) (n) (by have := HV.out; omega)]) (by simp)⟩
  · have HL : Hid (pairOf n = [UInt8.ofNat ((55296 + (n - 65536) / 1024) / 256), UInt8.ofNat ((55296 + (n - 65536) / 1024)), UInt8.ofNat ((56320 + (n - 65536) % 1024) / 256), UInt8.ofNat ((56320 + (n - 65536) % 1024))]) := Lib.hid (by unfold pairOf; rw [if_pos (by omega)]; rfl)
    have hv1 : 65536 ≤ v := by omega
    have HN := Lib.hid h1
    clear hv h1 hn
    go_enter Tryd.func77, Tryd.ntmps77
    go_wp2
    go_ret
    exact ⟨_, rfl, by rw [HL.out]; exact litOwn w [UInt8.ofNat ((55296 + (n - 65536) / 1024) / 256), UInt8.ofNat ((55296 + (n - 65536) / 1024)), UInt8.ofNat ((56320 + (n - 65536) % 1024) / 256), UInt8.ofNat ((56320 + (n - 65536) % 1024))] #[.int .u8 ((55296 + (v - 65536) / 1024) / 256), .int .u8 ((55296 + (v - 65536) / 1024) % 256), .int .u8 ((56320 + v % 1024) / 256), .int .u8 ((56320 + v % 1024) % 256)] (by simp only [bc, List.map_cons, List.map_nil]; rw [← u8v ((55296 + (v - 65536) / 1024) / 256) ((55296 + (n - 65536) / 1024) / 256) (by have := HV.out; have := HN.out; omega), ← u8v ((55296 + (v - 65536) / 1024) % 256) ((55296 + (n - 65536) / 1024)) (by have := HV.out; have := HN.out; omega), ← u8v ((56320 + v % 1024) / 256) ((56320 + (n - 65536) % 1024) / 256) (by have := HV.out; have := HN.out; omega), ← u8v ((56320 + v % 1024) % 256) ((56320 + (n - 65536) % 1024)) (by have := HV.out; have := HN.out; omega)]) (by simp)⟩
end Go.Proofs.YtclegocofiigiabDoor
