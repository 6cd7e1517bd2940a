/- Rows that lie at a place of their block. -/
import Derived.Test.YtlmlbcnjohjnlaaDoorN19a
import Derived.Test.YtlmlbcnjohjnlaaDoorM19n
import Derived.Deep.AppendSrc
namespace Go.Proofs.YtlmlbcnjohjnlaaDoor
open Go.RowKit

/-- A row of things: nil, or n of them at a place of a block of theirs. -/
def RowAt (w : World) (e : TypeId) (z : Nat) (v : Value) (n : Nat) (xs : List Value) : Prop :=
  xs.length = n * z ∧ ((v = .slice none 0 0 ∧ n = 0) ∨
   ∃ g o cap cur, v = .slice (some ⟨g, o, none⟩) n cap ∧ w.heap[g]? = some (.cells cur e (0, 0)) ∧ n ≤ cap ∧ o + cap * z ≤ cur.size ∧ (cur.toList.drop o).take (n * z) = xs)
section
variable {w w' : World} {e : TypeId} {z : Nat} {v : Value} {n : Nat} {xs : List Value}
theorem RowAt.ofOwns (h : w.ownsRow 0 e z v n xs) : RowAt w e z v n xs := by
  refine ⟨h.1, ?_⟩
  rcases h.2 with hn | ⟨g, cap, cur, rfl, _, hg, hc, _, hs, ht⟩
  · exact .inl hn
  · exact .inr ⟨g, 0, cap, cur, rfl, hg, hc, by omega, by simpa using ht⟩
theorem RowAt.same (h : RowAt w e z v n xs) (hs : ∀ b, v.ownBlock = some b → w'.heap[b]? = w.heap[b]?) : RowAt w' e z v n xs := by
  refine ⟨h.1, ?_⟩
  rcases h.2 with hn | ⟨g, o, cap, cur, rfl, hg, rest⟩
  · exact .inl hn
  · exact .inr ⟨g, o, cap, cur, rfl, by rw [hs g rfl]; exact hg, rest⟩
theorem RowAt.shape (h : RowAt w e z v n xs) : ∃ a c, v = .slice a n c := by
  rcases h.2 with ⟨rfl, rfl⟩ | ⟨g, o, cap, cur, rfl, _⟩
  · exact ⟨none, 0, rfl⟩
  · exact ⟨_, _, rfl⟩
theorem RowAt.kind (h : RowAt w e z v n xs) {b : Nat} (hb : v.ownBlock = some b) : ∃ cs, w.heap[b]? = some (.cells cs e (0, 0)) := by
  rcases h.2 with ⟨rfl, _⟩ | ⟨g, o, cap, cur, rfl, hg, _⟩
  · cases hb
  · cases hb
    exact ⟨_, hg⟩
theorem RowAt.lt (h : RowAt w e z v n xs) {b : Nat} (hb : v.ownBlock = some b) : b < w.heap.size := by
  obtain ⟨cs, hc⟩ := h.kind hb
  exact lt_of_heap hc
theorem RowAt.cell (h : RowAt w e z v n xs) (hn : 0 < n) : ∃ g o cap, v = .slice (some ⟨g, o, none⟩) n cap ∧ n ≤ cap ∧ g < w.heap.size ∧ ∀ j, j < n * z → w.cell? ⟨g, o + j, none⟩ = xs[j]? := by
  rcases h.2 with ⟨rfl, rfl⟩ | ⟨g, o, cap, cur, rfl, hg, hc, hs, ht⟩
  · omega
  · refine ⟨g, o, cap, rfl, hc, lt_of_heap hg, fun j hj => ?_⟩
    rw [cell_of hg, ← ht, List.getElem?_take, if_pos hj, List.getElem?_drop]
    simp
theorem heap_setCells_at {b : Nat} {fz : Nat × Nat} : ∀ (vs : List Value) (o : Nat) (w : World) (cur : Array Value), w.heap[b]? = some (.cells cur e fz) → o + vs.length ≤ cur.size →
    ∃ cur' : Array Value, (w.setCells b o vs).heap[b]? = some (.cells cur' e fz) ∧ cur'.toList = cur.toList.take o ++ vs ++ cur.toList.drop (o + vs.length)
  | [], o, w, cur, h, _ => ⟨cur, h, by simp⟩
  | u :: vs, o, w, cur, h, hl => by
    have h1 := heap_setCell_at u h (o := o)
    simp only [List.length_cons] at hl
    obtain ⟨cur', h2, h3⟩ := heap_setCells_at vs (o + 1) _ _ h1 (by simp; omega)
    refine ⟨cur', h2, ?_⟩
    have hol : o < cur.toList.length := by simp; omega
    have hs : cur.toList.set o u = cur.toList.take o ++ u :: cur.toList.drop (o + 1) := List.set_eq_take_append_cons_drop.trans (if_pos hol)
    have hto : (cur.toList.take o).length = o := by rw [List.length_take]; omega
    rw [h3, Array.toList_setIfInBounds, hs]
    rw [List.take_append, List.drop_append, hto]
    have e1 : (cur.toList.take o).take (o + 1) = cur.toList.take o := List.take_of_length_le (by omega)
    have e2 : (cur.toList.take o).drop (o + 1 + vs.length) = [] := List.drop_eq_nil_of_le (by omega)
    rw [e1, e2, show o + 1 - o = 1 from by omega, show o + 1 + vs.length - o = vs.length + 1 from by omega]
    simp [List.drop_drop, Nat.add_comm, Nat.add_left_comm]
theorem size_setCells' (b : Nat) : ∀ (vs : List Value) (o : Nat) (w : World), (w.setCells b o vs).heap.size = w.heap.size ∧ (w.setCells b o vs).os = w.os ∧ (w.setCells b o vs).tape = w.tape ∧ (w.setCells b o vs).output = w.output ∧ ∀ k, k ≠ b → (w.setCells b o vs).heap[k]? = w.heap[k]?
  | [], _, w => ⟨rfl, rfl, rfl, rfl, fun _ _ => rfl⟩
  | u :: vs, o, w => by
    obtain ⟨h1, h2, h3, h4, h5⟩ := size_setCells' b vs (o + 1) (w.setCell ⟨b, o, none⟩ u)
    exact ⟨h1.trans (by simp [World.setCell]), h2, h3, h4, fun k hk => (h5 k hk).trans (Below.heap_setCell _ _ _ _ hk)⟩
/-- Things behind a row, whatever they come from. -/
theorem RowAt.appS {P : Program} (t tx ty : TypeId) (zv : Value) (bytes : Nat) (ht : P.underlying t = some (.slice e)) (hi : (P.info? e).map (fun i => (i.zero, i.size, i.bytes)) = some (some zv, z, bytes)) (hzs : zv.cells.size = z)
    (h : RowAt w e z v n xs) (x : Value) (m : Nat) (news : List Value) (hsrc : Src P z tx x m news w) (hm : 0 < m) (hl : n + m ≤ 4294967296) (hb : bytes ≤ 4096) :
    ∃ a c W1, (Builtin.append_ #[t, tx] ty #[v, x]).run P w = .ok (.slice a (n + m) c) W1 ∧
      RowAt W1 e z (.slice a (n + m) c) (n + m) (xs ++ news) ∧ w.grownBy W1 v.ownBlock ∧ ∀ b, (Value.slice a (n + m) c).ownBlock = some b → v.ownBlock = some b ∨ w.heap.size ≤ b := by
  obtain ⟨i0, hi0, hz0, hz1, hz2⟩ := info_parts' hi
  subst hz1 hz2
  have hlen : (xs ++ news).length = (n + m) * i0.size := by rw [List.length_append, h.1, hsrc.newsLen, Nat.add_mul]
  have hmul : (n + m) * i0.bytes ≤ 4294967296 * 4096 := Nat.mul_le_mul hl hb
  have grown : ∀ (old : Nat) (row : Option Nat), old < n + m →
      RowAt (w.drew.alloc (.cells ((xs ++ news).toArray ++ Builtin.zeroCells zv.cells (grownCap w (n + m) old e - (n + m))) e)) e i0.size (.slice (some ⟨w.heap.size, 0, none⟩) (n + m) (grownCap w (n + m) old e)) (n + m) (xs ++ news) ∧
      w.grownBy (w.drew.alloc (.cells ((xs ++ news).toArray ++ Builtin.zeroCells zv.cells (grownCap w (n + m) old e - (n + m))) e)) row := by
    intro old row ho
    have hge := grownCap_ge w (n + m) old e
    refine ⟨⟨hlen, .inr ⟨w.heap.size, 0, _, _, rfl, heap_alloc_new w.drew _, hge, ?_, ?_⟩⟩, ⟨rfl, rfl, rfl, by simp, fun k hk _ => Below.heap_alloc _ _ _ hk⟩⟩
    · refine Nat.le_of_eq ?_
      simp only [Array.size_append, List.size_toArray, size_zeroCells, hzs, hlen, Nat.zero_add, ← Nat.add_mul]
      congr 1
      omega
    · simp only [Array.toList_append, List.drop_zero]
      rw [← hlen]
      exact List.take_left
  rcases h.2 with ⟨rfl, rfl⟩ | ⟨g, o, cap, cur, rfl, hg, hc, hs, htk⟩
  · have hx : xs = [] := List.eq_nil_of_length_eq_zero (by simpa using h.1)
    subst hx
    have hr := run_append_grow_src (P := P) w t tx ty e i0 zv ht hi0 hz0 none 0 0 [] (run_firstCells_none w.drew i0.size 0 0 0) x m news hsrc (by omega) (by omega) (growslice_fits (by omega) (by omega))
    obtain ⟨g1, g2⟩ := grown 0 (Value.ownBlock (.slice none 0 0)) (by omega)
    exact ⟨_, _, _, hr, g1, g2, fun b e => .inr (by simp [Value.ownBlock] at e; omega)⟩
  · by_cases hroom : n + m ≤ cap
    · have hfit : o + n * i0.size + news.length ≤ cur.size := by
        rw [hsrc.newsLen, Nat.add_assoc, ← Nat.add_mul]
        exact Nat.le_trans (Nat.add_le_add_left (Nat.mul_le_mul_right _ hroom) _) hs
      have hr := run_append_room_src (P := P) w t tx ty e i0 ht hi0 g o n cap x m news hsrc hroom (fun j hj => by rw [cell_of hg]; simp; omega) (fun j hj => frozen_of hg _)
      obtain ⟨cur', h1, h2⟩ := heap_setCells_at news (o + n * i0.size) w cur hg hfit
      obtain ⟨s1, s2, s3, s4, s5⟩ := size_setCells' g news (o + n * i0.size) w
      refine ⟨_, _, _, hr, ⟨hlen, .inr ⟨g, o, cap, cur', rfl, h1, hroom, ?_, ?_⟩⟩, ⟨s2, s3, s4, by omega, fun k _ hk => s5 k (fun e => hk (by simp [Value.ownBlock, e]))⟩, fun b e => .inl e⟩
      · have := congrArg List.length h2
        simp only [List.length_append, List.length_take, List.length_drop, Array.length_toList] at this
        have hs' := hs
        omega
      · have hxs : (cur.toList.take (o + n * i0.size)).drop o = xs := by
          rw [List.drop_take, ← htk]
          congr 1
          omega
        have hol : o ≤ (cur.toList.take (o + n * i0.size)).length := by rw [List.length_take, Array.length_toList]; omega
        rw [h2, List.append_assoc, List.drop_append, show o - (cur.toList.take (o + n * i0.size)).length = 0 from by omega, List.drop_zero, hxs, ← List.append_assoc, ← hlen]
        exact List.take_left
    · have hold : (Builtin.firstCells i0.size n (.slice (some ⟨g, o, none⟩) n cap)).run P w.drew = .ok xs.toArray w.drew := run_firstCells_some w.drew i0.size n ⟨g, o, none⟩ n cap xs h.1 (fun j u hj => by
        have hjl := (List.getElem?_eq_some_iff.1 hj).1
        have hw : w.drew.heap[g]? = some (.cells cur e (0, 0)) := hg
        rw [Addr.add_lit, cell_of hw, ← hj, ← htk, List.getElem?_take, if_pos (by rw [h.1] at hjl; exact hjl), List.getElem?_drop]
        simp)
      have hr := run_append_grow_src (P := P) w t tx ty e i0 zv ht hi0 hz0 (some ⟨g, o, none⟩) n cap xs hold x m news hsrc (by omega) (by omega) (growslice_fits (by omega) (by omega))
      obtain ⟨g1, g2⟩ := grown cap (Value.ownBlock (.slice (some ⟨g, o, none⟩) n cap)) (by omega)
      exact ⟨_, _, _, hr, g1, g2, fun b e => .inr (by simp [Value.ownBlock] at e; omega)⟩
/-- One thing more behind a row. -/
theorem RowAt.app {P : Program} (t : TypeId) (zv : Value) (bytes : Nat) (ht : P.underlying t = some (.slice e)) (hi : (P.info? e).map (fun i => (i.zero, i.size, i.bytes)) = some (some zv, z, bytes)) (hzs : zv.cells.size = z)
    (h : RowAt w e z v n xs) (cs : Array Value) (hcs : cs.size = z) (h1 : ∀ u ∈ cs.toList, u.oneCell' = true) (hl : n + 1 ≤ 4294967296) (hb : bytes ≤ 4096) :
    ∃ a c W1, (Builtin.append_ #[t, t] t #[v, .slice (some ⟨w.heap.size, 0, none⟩) 1 1]).run P (w.alloc (.cells cs e)) = .ok (.slice a (n + 1) c) W1 ∧
      RowAt W1 e z (.slice a (n + 1) c) (n + 1) (xs ++ cs.toList) ∧ w.grownBy W1 v.ownBlock ∧ ∀ b, (Value.slice a (n + 1) c).ownBlock = some b → v.ownBlock = some b ∨ w.heap.size ≤ b := by
  have hnew : (w.alloc (.cells cs e)).heap[w.heap.size]? = some (.cells cs e (0, 0)) := heap_alloc_new w _
  have hbel : Below w.heap.size w (w.alloc (.cells cs e)) := (Below.refl _ _).alloc (Nat.le_refl _) _
  have hsrc : Src P z t (.slice (some ⟨w.heap.size, 0, none⟩) 1 1) 1 cs.toList (w.alloc (.cells cs e)) := Src.ofSlice _ ht _ 1 1 _ (by simp [hcs]) (fun j u hj => by
    rw [show ((⟨w.heap.size, 0, none⟩ : Addr).add j) = ⟨w.heap.size, j, none⟩ from by rw [Addr.add_lit, Nat.zero_add], cell_of hnew j]
    rw [← hj]; simp) h1
  have h' : RowAt (w.alloc (.cells cs e)) e z v n xs := h.same (fun b hb => hbel.block b (h.lt hb))
  obtain ⟨a, c, W1, r1, r2, r3, r4⟩ := h'.appS t t t zv bytes ht hi hzs _ 1 cs.toList hsrc (by omega) hl hb
  refine ⟨a, c, W1, r1, r2, ⟨r3.os, r3.tape, r3.output, by have := r3.size; simp at this; omega, fun k hk hne => by rw [r3.block k (by simp; omega) hne, Below.heap_alloc _ _ _ hk]⟩, fun b hb => ?_⟩
  rcases r4 b hb with e | e
  · exact .inl e
  · exact .inr (by simp at e; omega)
end
end Go.Proofs.YtlmlbcnjohjnlaaDoor

/- A mirror in memory, with what it holds as plain data. -/
namespace Go.Proofs.YtlmlbcnjohjnlaaDoor
open Go.RowKit

/-- Two lists, one by one. -/
def All2 {α β : Type} (R : α → β → Prop) : List α → List β → Prop
  | [], [] => True
  | a :: l, b :: m => R a b ∧ All2 R l m
  | _, _ => False
section
variable {α β : Type} {R R' : α → β → Prop}
theorem All2.length : ∀ {l : List α} {m : List β}, All2 R l m → l.length = m.length
  | [], [], _ => rfl
  | _ :: _, _ :: _, h => by simp [All2.length h.2]
theorem All2.mono (hr : ∀ a b, R a b → R' a b) : ∀ {l : List α} {m : List β}, All2 R l m → All2 R' l m
  | [], [], _ => trivial
  | _ :: _, _ :: _, h => ⟨hr _ _ h.1, All2.mono hr h.2⟩
theorem All2.app : ∀ {l : List α} {m : List β} {l' : List α} {m' : List β}, All2 R l m → All2 R l' m' → All2 R (l ++ l') (m ++ m')
  | [], [], _, _, _, h => h
  | _ :: _, _ :: _, _, _, h, k => ⟨h.1, All2.app h.2 k⟩
theorem All2.get : ∀ {l : List α} {m : List β}, All2 R l m → ∀ (i : Nat) (a : α), l[i]? = some a → ∃ b, m[i]? = some b ∧ R a b
  | [], _, _, _, _, e => by simp at e
  | _ :: _, b :: _, h, 0, _, e => ⟨b, rfl, by simp at e; subst e; exact h.1⟩
  | _ :: _, _ :: _, h, i + 1, a, e => All2.get h.2 i a (by simpa using e)
theorem All2.gets : ∀ {l : List α} {m : List β}, All2 R l m → ∀ (i : Nat) (b : β), m[i]? = some b → ∃ a, l[i]? = some a ∧ R a b
  | _, [], _, _, _, e => by simp at e
  | a :: _, _ :: _, h, 0, _, e => ⟨a, rfl, by simp at e; subst e; exact h.1⟩
  | _ :: _, _ :: _, h, i + 1, b, e => All2.gets h.2 i b (by simpa using e)
theorem All2.set : ∀ {l : List α} {m : List β}, All2 R l m → ∀ (i : Nat) (a : α) (b : β), R a b → All2 R (l.set i a) (m.set i b)
  | [], [], _, _, _, _, _ => by simp [All2]
  | _ :: _, _ :: _, h, 0, _, _, r => ⟨r, h.2⟩
  | _ :: _, _ :: _, h, i + 1, a, b, r => ⟨h.1, All2.set h.2 i a b r⟩
theorem All2.take : ∀ {l : List α} {m : List β}, All2 R l m → ∀ (i : Nat), All2 R (l.take i) (m.take i)
  | [], [], _, _ => by simp [All2]
  | _ :: _, _ :: _, _, 0 => by simp [All2]
  | _ :: _, _ :: _, h, i + 1 => ⟨h.1, All2.take h.2 i⟩
theorem All2.drop : ∀ {l : List α} {m : List β}, All2 R l m → ∀ (i : Nat), All2 R (l.drop i) (m.drop i)
  | [], [], _, _ => by simp [All2]
  | _ :: _, _ :: _, h, 0 => h
  | _ :: _, _ :: _, h, i + 1 => All2.drop h.2 i
end
/-- Texts in kept memory. -/
def StrsIn (fr : List Nat) (X : World) (v : Value) (l : List ByteArray) : Prop :=
  ∃ a c, v = .slice a l.length c ∧ (0 < l.length → ∃ g o cs, a = some ⟨g, o, none⟩ ∧ g ∈ fr ∧ X.heap[g]? = some (.cells cs 9 (0, 0)) ∧ ∀ i, i < l.length → cs[o + i]? = some (.string (l.getD i ⟨#[]⟩)))
/-- A set in kept memory. -/
def RgsIn (fr : List Nat) (X : World) (v : Value) (l : List Rg) : Prop :=
  ∃ a c, v = .slice a l.length c ∧ (a = none → c = 0) ∧ (0 < l.length → ∃ g o cs, a = some ⟨g, o, none⟩ ∧ g ∈ fr ∧ X.heap[g]? = some (.cells cs 91 (0, 0)) ∧ ∀ i, i < l.length → cs[o + i * 2]? = some (.int .i64 (l.getD i (0, 0)).1) ∧ cs[o + i * 2 + 1]? = some (.int .i64 (l.getD i (0, 0)).2))
structure AKin (fr : List Nat) (X : World) (k : AK) (a : PA) : Prop where
  tag : k.tag = a.tag
  verb : k.verb = a.verb
  uid : k.uid = a.uid
  sil : k.sil = a.sil
  set : RgsIn fr X k.set a.set
def akL (ks : List AK) : List Value := ks.flatMap fun k => (akC k).toList
def QIn (fr : List Nat) (X : World) (q : Value) (L : List PA) : Prop := ∃ ks, RowAt X 78 5 q L.length (akL ks) ∧ (∀ b, q.ownBlock = some b → b ∈ fr) ∧ All2 (AKin fr X) ks L
/-- A row's cells. -/
structure RW where
  uid : Int
  kn : Bool
  fv : Value
def rwC (r : RW) : List Value := [.int .i64 r.uid, .bool r.kn, r.fv]
def rwL (rs : List RW) : List Value := rs.flatMap rwC
structure RWin (fr : List Nat) (X : World) (r : RW) (p : PR) : Prop where
  uid : r.uid = p.uid
  kn : r.kn = p.kn
  fl : StrsIn fr X r.fv p.fl
def RIn (fr : List Nat) (X : World) (rows : Value) (L : List PR) : Prop := ∃ rs, RowAt X 98 3 rows L.length (rwL rs) ∧ (∀ b, rows.ownBlock = some b → b ∈ fr) ∧ All2 (RWin fr X) rs L
/-- What is remembered of a uid. -/
structure WE where
  uid : Int
  fv : Value
  born : Nat
def WE.entry (e : WE) : MapEntry := { key := .int .i64 e.uid, val := e.fv, born := e.born }
def WasIn (fr : List Nat) (X : World) (was : Value) (f : Int → Option (List ByteArray)) : Prop :=
  (was = .map none ∧ f = fun _ => none) ∨ ∃ (m clk : Nat) (F : List WE), was = .map (some m) ∧ m ∈ fr ∧ X.heap[m]? = some (.map (F.map WE.entry).toArray clk) ∧ (∀ e ∈ F, ∃ l, StrsIn fr X e.fv l ∧ f e.uid = some l) ∧ ∀ u, (∀ e ∈ F, e.uid ≠ u) → f u = none
/-- A mirror at block P; it reads the blocks of fr, and writes none but these. -/
structure MAt (P : Nat) (fr : List Nat) (M : PM) (X : World) : Prop where
  ex : ∃ q rows was, X.heap[P]? = some (mirO q M.sel M.v M.n M.h rows was M.bg) ∧ QIn fr X q M.q ∧ RIn fr X rows M.rows ∧ WasIn fr X was M.was
  pin : P ∈ fr
  lt : ∀ b, b ∈ fr → b < X.heap.size
section
variable {fr fr' : List Nat} {X X' : World} {v : Value}
theorem StrsIn.on {l : List ByteArray} (h : StrsIn fr X v l) (hs : ∀ b, b ∈ fr → X'.heap[b]? = X.heap[b]?) (hf : ∀ b, b ∈ fr → b ∈ fr') : StrsIn fr' X' v l := by
  obtain ⟨a, c, rfl, h⟩ := h
  refine ⟨a, c, rfl, fun h0 => ?_⟩
  obtain ⟨g, o, cs, rfl, hg, hh, hc⟩ := h h0
  exact ⟨g, o, cs, rfl, hf g hg, by rw [hs g hg]; exact hh, hc⟩
theorem StrsIn.nil : StrsIn fr X (.slice none 0 0) [] := ⟨none, 0, rfl, fun h => by simp at h⟩
theorem RgsIn.on {l : List Rg} (h : RgsIn fr X v l) (hs : ∀ b, b ∈ fr → X'.heap[b]? = X.heap[b]?) (hf : ∀ b, b ∈ fr → b ∈ fr') : RgsIn fr' X' v l := by
  obtain ⟨a, c, rfl, hn, h⟩ := h
  refine ⟨a, c, rfl, hn, fun h0 => ?_⟩
  obtain ⟨g, o, cs, rfl, hg, hh, hc⟩ := h h0
  exact ⟨g, o, cs, rfl, hf g hg, by rw [hs g hg]; exact hh, hc⟩
theorem RgsIn.nil : RgsIn fr X (.slice none 0 0) [] := ⟨none, 0, rfl, fun _ => rfl, fun h => by simp at h⟩
theorem RgsIn.shape {l : List Rg} (h : RgsIn fr X v l) : ∃ a n c, v = .slice a n c := by
  obtain ⟨a, c, rfl, _⟩ := h
  exact ⟨_, _, _, rfl⟩
theorem AKin.on {k : AK} {a : PA} (h : AKin fr X k a) (hs : ∀ b, b ∈ fr → X'.heap[b]? = X.heap[b]?) (hf : ∀ b, b ∈ fr → b ∈ fr') : AKin fr' X' k a := ⟨h.tag, h.verb, h.uid, h.sil, h.set.on hs hf⟩
theorem RWin.on {k : RW} {a : PR} (h : RWin fr X k a) (hs : ∀ b, b ∈ fr → X'.heap[b]? = X.heap[b]?) (hf : ∀ b, b ∈ fr → b ∈ fr') : RWin fr' X' k a := ⟨h.uid, h.kn, h.fl.on hs hf⟩
theorem QIn.on {L : List PA} (h : QIn fr X v L) (hs : ∀ b, b ∈ fr → X'.heap[b]? = X.heap[b]?) (hf : ∀ b, b ∈ fr → b ∈ fr') : QIn fr' X' v L := by
  obtain ⟨ks, h1, h2, h3⟩ := h
  exact ⟨ks, h1.same (fun b e => hs b (h2 b e)), fun b e => hf b (h2 b e), h3.mono (fun _ _ r => r.on hs hf)⟩
theorem RIn.on {L : List PR} (h : RIn fr X v L) (hs : ∀ b, b ∈ fr → X'.heap[b]? = X.heap[b]?) (hf : ∀ b, b ∈ fr → b ∈ fr') : RIn fr' X' v L := by
  obtain ⟨ks, h1, h2, h3⟩ := h
  exact ⟨ks, h1.same (fun b e => hs b (h2 b e)), fun b e => hf b (h2 b e), h3.mono (fun _ _ r => r.on hs hf)⟩
theorem WasIn.on {f : Int → Option (List ByteArray)} (h : WasIn fr X v f) (hs : ∀ b, b ∈ fr → X'.heap[b]? = X.heap[b]?) (hf : ∀ b, b ∈ fr → b ∈ fr') : WasIn fr' X' v f := by
  rcases h with h | ⟨m, clk, F, rfl, hm, hh, h1, h2⟩
  · exact .inl h
  · exact .inr ⟨m, clk, F, rfl, hf m hm, by rw [hs m hm]; exact hh, fun e he => by
      obtain ⟨l, h3, h4⟩ := h1 e he
      exact ⟨l, h3.on hs hf, h4⟩, h2⟩
theorem QIn.nil : QIn fr X (.slice none 0 0) [] := ⟨[], ⟨by simp [akL], .inl ⟨rfl, rfl⟩⟩, fun _ e => (by cases e), trivial⟩
theorem RIn.nil : RIn fr X (.slice none 0 0) [] := ⟨[], ⟨by simp [rwL], .inl ⟨rfl, rfl⟩⟩, fun _ e => (by cases e), trivial⟩
theorem WasIn.nil : WasIn fr X (.map none) (fun _ => none) := .inl ⟨rfl, rfl⟩
variable {P : Nat} {M : PM}
theorem MAt.on (h : MAt P fr M X) (hs : ∀ b, b ∈ fr → X'.heap[b]? = X.heap[b]?) (hz : X.heap.size ≤ X'.heap.size) : MAt P fr M X' := by
  obtain ⟨q, rows, was, h1, h2, h3, h4⟩ := h.ex
  exact ⟨⟨q, rows, was, by rw [hs P h.pin]; exact h1, h2.on hs (fun _ e => e), h3.on hs (fun _ e => e), h4.on hs (fun _ e => e)⟩, h.pin, fun b hb => Nat.lt_of_lt_of_le (h.lt b hb) hz⟩
theorem MAt.bel (h : MAt P fr M X) (hb : Below X.heap.size X X') : MAt P fr M X' := h.on (fun b e => hb.block b (h.lt b e)) hb.size
theorem MAt.plt (h : MAt P fr M X) : P < X.heap.size := h.lt P h.pin
theorem rwL_len (ks : List RW) : (rwL ks).length = ks.length * 3 := by
  induction ks with
  | nil => rfl
  | cons k ks ih =>
    simp only [rwL, List.flatMap_cons, List.length_append] at ih ⊢
    rw [ih]
    simp [rwC, Nat.add_mul]
    omega
theorem flat_get {α : Type} (f : α → List Value) (z : Nat) (hz : ∀ a, (f a).length = z) : ∀ (l : List α) (i j : Nat) (a : α), l[i]? = some a → j < z → (l.flatMap f)[i * z + j]? = (f a)[j]?
  | a :: l, 0, j, _, e, hj => by
    simp at e
    subst e
    rw [List.flatMap_cons, List.getElem?_append_left (by rw [hz]; omega)]
    simp
  | b :: l, i + 1, j, a, e, hj => by
    rw [List.flatMap_cons, List.getElem?_append_right (by rw [hz, Nat.add_mul]; omega), hz]
    rw [show (i + 1) * z + j - z = i * z + j from by rw [Nat.add_mul]; omega]
    exact flat_get f z hz l i j a (by simpa using e) hj
/-- What is at hand. -/
theorem QIn.hand {L : List PA} (h : QIn fr X v L) (hl : L.length < 4294967296) : (L = [] ∧ Hand X v none) ∨ ∃ c L' k, L = c :: L' ∧ Hand X v (some k) ∧ AKin fr X k c := by
  obtain ⟨ks, h1, h2, h3⟩ := h
  cases L with
  | nil =>
    obtain ⟨a, c, rfl⟩ := h1.shape
    exact .inl ⟨rfl, ⟨a, c, rfl⟩⟩
  | cons c L' =>
    cases ks with
    | nil => exact h3.elim
    | cons k ks =>
      obtain ⟨g, o, cap, rfl, hc, hg, hcell⟩ := h1.cell (by simp)
      refine .inr ⟨c, L', k, rfl, ⟨g, o, L'.length, cap, rfl, by simpa using hl, hg, h3.1.set.shape, ?_, ?_, ?_, ?_, ?_⟩, h3.1⟩
      · exact hcell 0 (by simp)
      · exact hcell 1 (by simp; omega)
      · exact hcell 2 (by simp; omega)
      · exact hcell 3 (by simp; omega)
      · exact hcell 4 (by simp; omega)
end
end Go.Proofs.YtlmlbcnjohjnlaaDoor
