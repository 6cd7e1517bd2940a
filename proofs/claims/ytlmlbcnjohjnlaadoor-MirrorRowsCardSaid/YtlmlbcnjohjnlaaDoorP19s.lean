/- What came in: a step as plain data. -/
import Derived.Test.YtlmlbcnjohjnlaaDoorP19q
import Derived.Test.YtlmlbcnjohjnlaaDoorP19g
import Derived.Test.YtlmlbcnjohjnlaaDoorP19l
import Derived.Test.YtlmlbcnjohjnlaaDoorP19m
import Derived.Test.YtlmlbcnjohjnlaaDoorM19t
namespace Go.Proofs.YtlmlbcnjohjnlaaDoor
open Go.Shelf Go.ChangeShapes Go.WideShapes Go.ChangeAt Go.RowKit Go.Lib

section
variable {W : World}
theorem lt_getD {α : Type} (f : Nat → α) {n i : Nat} {x : α} (h : ((List.range n).map f)[i]? = some x) : i < n ∧ x = f i := by
  have hi : i < n := by
    have := (List.getElem?_eq_some_iff.1 h).1
    simpa using this
  rw [List.getElem?_map, List.getElem?_range hi] at h
  simp at h
  exact ⟨hi, h.symm⟩
theorem all2_map {ι α β : Type} {R : α → β → Prop} {f : ι → α} {g : ι → β} : ∀ {l : List ι}, (∀ i ∈ l, R (f i) (g i)) → All2 R (l.map f) (l.map g)
  | [], _ => trivial
  | i :: l, h => ⟨h i (by simp), all2_map (fun j hj => h j (by simp [hj]))⟩
theorem lis_of {α : Type} [Inhabited α] (enc : α → Value) {v : Value} (h : RowN W 1 (fun cs => ∃ u, cs = [u] ∧ ∃ x, u = enc x) v) (hl : lenV v ≤ 4000) : ∃ l : List α, LisA W v (l.map enc) := by
  obtain ⟨a, n, c, rfl, _, _, h⟩ := h
  have hn : n ≤ 4000 := hl
  by_cases h0 : n = 0
  · subst h0
    exact ⟨[], a, c, rfl, by simp, fun h => by simp at h⟩
  · obtain ⟨g, o, rfl, hg, h⟩ := h (by omega)
    have key : ∀ i, i < n → ∃ x, W.cell? ⟨g, o + i, none⟩ = some (enc x) := fun i hi => by
      obtain ⟨cs, _, ⟨u, rfl, x, rfl⟩, hr⟩ := h i hi
      have := hr 0 _ rfl
      exact ⟨x, by simpa using this⟩
    obtain ⟨f, hf⟩ := Deep.choose_lt key
    refine ⟨(List.range n).map f, some ⟨g, o, none⟩, c, by simp, by simp; omega, fun _ => ⟨g, o, rfl, hg, fun j u hj => ?_⟩⟩
    rw [List.map_map] at hj
    obtain ⟨hjn, rfl⟩ := lt_getD _ hj
    exact hf j hjn
theorem txts_of {v : Value} (h : RowN W 1 (TxtC W) v) (hl : lenV v ≤ 4000) (hk : ∀ g o n c, v = .slice (some ⟨g, o, none⟩) n c → ∀ i, i < n → ∀ u, W.cell? ⟨g, o + i, none⟩ = some u → lenV u ≤ 4000) :
    ∃ fvs flags, LisA W v fvs ∧ All2 (fun fv (t : List ByteArray) => LisA W fv (t.map .string)) fvs flags := by
  obtain ⟨a, n, c, rfl, _, _, h⟩ := h
  have hn : n ≤ 4000 := hl
  by_cases h0 : n = 0
  · subst h0
    exact ⟨[], [], ⟨a, c, rfl, by simp, fun h => by simp at h⟩, trivial⟩
  · obtain ⟨g, o, rfl, hg, h⟩ := h (by omega)
    have key : ∀ i, i < n → ∃ q : Value × List ByteArray, W.cell? ⟨g, o + i, none⟩ = some q.1 ∧ LisA W q.1 (q.2.map .string) := fun i hi => by
      obtain ⟨cs, _, ⟨u, rfl, hu⟩, hr⟩ := h i hi
      have hc : W.cell? ⟨g, o + i, none⟩ = some u := by have := hr 0 _ rfl; simpa using this
      obtain ⟨l, hl⟩ := lis_of Value.string hu (hk g o n c rfl i hi u hc)
      exact ⟨(u, l), hc, hl⟩
    haveI : Inhabited (Value × List ByteArray) := ⟨(undef, [])⟩
    obtain ⟨f, hf⟩ := Deep.choose_lt key
    refine ⟨(List.range n).map (fun i => (f i).1), (List.range n).map (fun i => (f i).2), ⟨some ⟨g, o, none⟩, c, by simp, by simp; omega, fun _ => ⟨g, o, rfl, hg, fun j u hj => ?_⟩⟩, all2_map (fun i hi => (hf i (by simpa using hi)).2)⟩
    obtain ⟨hjn, rfl⟩ := lt_getD _ hj
    exact (hf j hjn).1
theorem kids_of {v : Value} (h : RowN W 4 ValC v) (hl : lenV v ≤ 4000) : ∃ l, KidsA W v l := by
  obtain ⟨a, n, c, rfl, _, _, h⟩ := h
  have hn : n ≤ 4000 := hl
  by_cases h0 : n = 0
  · subst h0
    exact ⟨[], a, c, rfl, by simp, fun h => by simp at h⟩
  · obtain ⟨g, o, rfl, hg, h⟩ := h (by omega)
    have key : ∀ i, i < n → ∃ x : Int × Int × ByteArray, x.2.2.size ≤ maxLen ∧ ∃ ka kn kc, W.cell? ⟨g, o + i * 4, none⟩ = some (.int .i64 x.1) ∧ W.cell? ⟨g, o + i * 4 + 1, none⟩ = some (.int .i64 x.2.1) ∧ W.cell? ⟨g, o + i * 4 + 2, none⟩ = some (.string x.2.2) ∧ W.cell? ⟨g, o + i * 4 + 3, none⟩ = some (.slice ka kn kc) := fun i hi => by
      obtain ⟨cs, _, ⟨k, m, t, ka, kn, kc, rfl, ht⟩, hr⟩ := h i hi
      exact ⟨(k, m, t), ht, ka, kn, kc, hr 0 _ rfl, hr 1 _ rfl, hr 2 _ rfl, hr 3 _ rfl⟩
    haveI : Inhabited (Int × Int × ByteArray) := ⟨(0, 0, ⟨#[]⟩)⟩
    obtain ⟨f, hf⟩ := Deep.choose_lt key
    refine ⟨(List.range n).map f, some ⟨g, o, none⟩, c, by simp, by simp; omega, fun _ => ⟨g, o, rfl, hg, fun j u hj => ?_⟩⟩
    obtain ⟨hjn, rfl⟩ := lt_getD _ hj
    exact hf j hjn
theorem data_of {v : Value} (h : RowN W 5 (DatF W) v) (hl : lenV v ≤ 4000) (hk : ∀ g o n c, v = .slice (some ⟨g, o, none⟩) n c → ∀ i, i < n → ∀ u, W.cell? ⟨g, o + i * 5 + 4, none⟩ = some u → lenV u ≤ 4000) : ∃ l, DataA W v l := by
  obtain ⟨a, n, c, rfl, _, _, h⟩ := h
  have hn : n ≤ 4000 := hl
  by_cases h0 : n = 0
  · subst h0
    exact ⟨[], a, c, rfl, by simp, fun h => by simp at h⟩
  · obtain ⟨g, o, rfl, hg, h⟩ := h (by omega)
    have key : ∀ i, i < n → ∃ x : ByteArray × PV, ∃ t ka kn kc, W.cell? ⟨g, o + i * 5, none⟩ = some (.string x.1) ∧ W.cell? ⟨g, o + i * 5 + 1, none⟩ = some (.int .i64 x.2.k) ∧ W.cell? ⟨g, o + i * 5 + 2, none⟩ = some (.int .i64 x.2.n) ∧ W.cell? ⟨g, o + i * 5 + 3, none⟩ = some (.string t) ∧ W.cell? ⟨g, o + i * 5 + 4, none⟩ = some (.slice ka kn kc) ∧ KidsA W (.slice ka kn kc) x.2.kids := fun i hi => by
      obtain ⟨cs, _, ⟨s, k, m, t, kv, rfl, _, hkv⟩, hr⟩ := h i hi
      have h4 : W.cell? ⟨g, o + i * 5 + 4, none⟩ = some kv := hr 4 _ rfl
      obtain ⟨l, hkl⟩ := kids_of hkv (hk g o n c rfl i hi kv h4)
      obtain ⟨ka, kn, kc, rfl, _⟩ := hkv.shape
      exact ⟨(s, ⟨k, m, l⟩), t, ka, kn, kc, hr 0 _ rfl, hr 1 _ rfl, hr 2 _ rfl, hr 3 _ rfl, h4, hkl⟩
    haveI : Inhabited (ByteArray × PV) := ⟨(⟨#[]⟩, ⟨0, 0, []⟩)⟩
    obtain ⟨f, hf⟩ := Deep.choose_lt key
    refine ⟨(List.range n).map f, some ⟨g, o, none⟩, c, by simp, by simp; omega, fun _ => ⟨g, o, rfl, hg, fun j u hj => ?_⟩⟩
    obtain ⟨hjn, rfl⟩ := lt_getD _ hj
    exact hf j hjn
theorem rgs_of {v : Value} (h : RowN W 2 RgC v) (hl : lenV v ≤ 4000) : ∃ l, Rgs W v l ∧ l.length ≤ 4000 := by
  obtain ⟨a, n, c, rfl, ha, _, h⟩ := h
  have hn : n ≤ 4000 := hl
  by_cases h0 : n = 0
  · subst h0
    exact ⟨[], .inl ⟨rfl, a, c, rfl, ha⟩, by simp⟩
  · obtain ⟨g, o, rfl, hg, h⟩ := h (by omega)
    have key : ∀ i, i < n → ∃ x : Rg, W.cell? ⟨g, o + i * 2, none⟩ = some (.int .i64 x.1) ∧ W.cell? ⟨g, o + i * 2 + 1, none⟩ = some (.int .i64 x.2) := fun i hi => by
      obtain ⟨cs, _, ⟨k, m, rfl⟩, hr⟩ := h i hi
      exact ⟨(k, m), hr 0 _ rfl, hr 1 _ rfl⟩
    haveI : Inhabited Rg := ⟨(0, 0)⟩
    obtain ⟨f, hf⟩ := Deep.choose_lt key
    refine ⟨(List.range n).map f, .inr ⟨g, o, c, by simp, by simp; omega, hg, fun i hi => ?_⟩, by simpa using hn⟩
    have hi' : i < n := by simpa using hi
    rw [show ((List.range n).map f).getD i (0, 0) = f i from by simp [hi']]
    exact hf i hi'
end
/-- A step, as plain data. -/
structure PX where
  kind : Int
  tag : ByteArray
  verb : Int
  uid : Bool
  sil : Bool
  set : List Rg
  ans : PN
  was : PS
/-- Its cells. -/
structure StF (W : World) (cs : List Value) (s : PX) : Prop where
  len : cs.length = 74
  one : ∀ v ∈ cs, v.oneCell' = true
  kind : cs[0]? = some (.int .i64 s.kind)
  cmd : ∃ sa sn sc, CmA ((cs.drop 2).take 49).toArray s.tag s.verb s.uid s.sil (.slice sa sn sc) ∧ Rgs W (.slice sa sn sc) s.set
  setn : s.set.length ≤ 4000
  ans : ∃ a, (cs.drop 51).take 16 = (anC a).toList ∧ AnsA W a s.ans
  was : ∃ b us fl kn nx, (cs.drop 67).take 7 = [.bool b, .int .i64 s.was.v, .int .i64 nx, .int .i64 s.was.h, us, fl, kn] ∧ s.was.h ≤ 9223372036854775807 ∧ SiA W us fl kn s.was
theorem stF_of {W : World} {cs : List Value} (h : StO W cs) (hs : Small W cs) : ∃ s, StF W cs s := by
  obtain ⟨k0, h0⟩ := h.c0
  obtain ⟨k2, h2⟩ := h.c2
  obtain ⟨k3, h3⟩ := h.c3
  obtain ⟨k4, h4⟩ := h.c4
  obtain ⟨k14, h14⟩ := h.c14
  obtain ⟨sv, h11, hsv⟩ := h.c11
  obtain ⟨l, hr, hrl⟩ := rgs_of hsv (hs.set _ h11)
  obtain ⟨sa, sn, sc, rfl, _⟩ := hsv.shape
  obtain ⟨a, ha, haa, had⟩ := h.ans
  have at51 : ∀ i, i < 16 → cs[51 + i]? = (anC a).toList[i]? := fun i hi => by rw [← ha, List.getElem?_take, if_pos hi, List.getElem?_drop]
  obtain ⟨args, hargs⟩ := kids_of haa (hs.args _ (at51 4 (by omega)))
  obtain ⟨data, hdata⟩ := data_of had (hs.data _ (at51 10 (by omega))) (fun g o n c e => hs.kids g o n c (by rw [← e]; exact at51 10 (by omega)))
  obtain ⟨b, v, n, hh, us, fl, kn, hw, hhh, hus, hfl, hkn⟩ := h.was
  have at67 : ∀ i, i < 7 → cs[67 + i]? = [Value.bool b, .int .i64 v, .int .i64 n, .int .i64 hh, us, fl, kn][i]? := fun i hi => by rw [← hw, List.getElem?_take, if_pos hi, List.getElem?_drop]
  obtain ⟨uids, hu⟩ := lis_of (Value.int .i64) hus (hs.uids _ (at67 4 (by omega)))
  obtain ⟨known, hk⟩ := lis_of Value.bool hkn (hs.known _ (at67 6 (by omega)))
  obtain ⟨fvs, flags, hf1, hf2⟩ := txts_of hfl (hs.flags _ (at67 5 (by omega))) (fun g o n c e => hs.texts g o n c (by rw [← e]; exact at67 5 (by omega)))
  have at2 : ∀ i, i < 49 → ((cs.drop 2).take 49).toArray[i]? = cs[2 + i]? := fun i hi => by
    rw [List.getElem?_toArray, List.getElem?_take, if_pos hi, List.getElem?_drop]
  refine ⟨⟨k0, k2, k3, k4, k14, l, ⟨a.k, a.tag, a.out, a.code, a.num, args.head?.map (fun x => (x.1, x.2.1)), data⟩, ⟨b, v, n, hh, uids, flags, known⟩⟩, h.b.len, h.b.one, h0, ⟨sa, sn, sc, ⟨by simp [h.b.len], ?_, (at2 0 (by omega)).trans h2, (at2 1 (by omega)).trans h3, (at2 2 (by omega)).trans h4, (at2 12 (by omega)).trans h14, (at2 9 (by omega)).trans h11⟩, hr⟩, hrl, ⟨a, ha, ⟨rfl, rfl, rfl, rfl, rfl, ⟨args, hargs, rfl⟩, hdata⟩⟩, ⟨b, us, fl, kn, n, hw, hhh, ⟨hu, hk, fvs, hf1, hf2⟩⟩⟩
  exact all_oneCell_toArray (fun v hv => h.b.one v (List.mem_of_mem_drop (List.mem_of_mem_take hv)))
end Go.Proofs.YtlmlbcnjohjnlaaDoor

/- One step on a mirror: act. -/
namespace Go.Proofs.YtlmlbcnjohjnlaaDoor
open Go.RowKit

/-- A mirror behind a step, and whether it could follow. -/
def actP (M : PM) (s : PX) : PM :=
  if s.kind = 1 then askM M s.tag s.verb s.uid s.sil s.set
  else if s.kind = 2 then hearP M s.ans
  else if s.kind = 3 then resP M s.was
  else M
def actK (M : PM) (s : PX) : Int :=
  if s.kind = 1 then (if askB s.tag s.verb then 0 else 190)
  else if s.kind = 2 then (if (chgP M s.ans).isSome then 0 else 190)
  else 0
def ActO (P : Nat) (fr : List Nat) (M : PM) (s : PX) (w : World) (e : Ending) (w' : World) : Prop := e = .returned (.int .i64 (actK M s)) ∧ MG P fr (actP M s) w w'
/-- Resync, as it stands of any sight. -/
def ResA : Prop := ∀ (P : Nat) (fr : List Nat) (M : PM) (b : Bool) (v nx h : Int) (us fl kn : Value) (s : PS) (W w : World), MAt P fr M w → Below W.heap.size W w → (∀ b, b ∈ fr → W.heap.size ≤ b) → EnvP W → SiA W us fl kn s → s.v = v → s.h = h → h ≤ 9223372036854775807 → Calls Tryd.prog 10 #[.pointer (some ⟨P, 0, none⟩), .agg #[.bool b, .int .i64 v, .int .i64 nx, .int .i64 h, us, fl, kn]] w (ResO P fr (resP M s) w)
theorem mg_below {P : Nat} {fr : List Nat} {M : PM} {w X w' : World} (hb : Below w.heap.size w X) (h : MG P fr M X w') : MG P fr M w w' := by
  obtain ⟨fr', h1, h2, h3⟩ := h
  exact ⟨fr', h1, (Stays.ofBelow hb).trans h2 (fun _ e => .inl e), fun b e => (h3 b e).imp id (fun k => Nat.le_trans hb.size k)⟩
set_option maxRecDepth 20000 in
set_option maxHeartbeats 4000000 in
theorem act_any (HR : ResA) (P : Nat) (fr : List Nat) (M : PM) (cs : List Value) (s : PX) (W w : World) (h : MAt P fr M w) (hm : SmQ M) (hW : Below W.heap.size W w) (hfr : ∀ b, b ∈ fr → W.heap.size ≤ b) (he : EnvP W) (hs : StF W cs s) :
    Calls Tryd.prog 15 #[.pointer (some ⟨P, 0, none⟩), .agg cs.toArray] w (ActO P fr M s w) := by
  obtain ⟨Y, hY⟩ : ∃ Y, w.alloc (.cells cs.toArray 49) = Y := ⟨_, rfl⟩
  have b0 : Below w.heap.size w Y := by rw [← hY]; exact (Below.refl _ _).alloc (Nat.le_refl _) _
  have r0 : Y.heap[w.heap.size]? = some (.cells cs.toArray 49 (0, 0)) := by rw [← hY]; exact heap_new _ _
  have c0 : Y.cell? ⟨w.heap.size, 0, none⟩ = some (.int .i64 s.kind) := by rw [cell_of r0]; simpa using hs.kind
  have hWY := hW.trans (b0.mono hW.size)
  have hat := h.bel b0
  have R1 : Hid (Y.rangeAt w.heap.size 2 ((cs.drop 2).take 49)) := Lib.hid (box_range r0 2)
  have R2 : Hid (Y.rangeAt w.heap.size 51 ((cs.drop 51).take 16)) := Lib.hid (box_range r0 51)
  have R3 : Hid (Y.rangeAt w.heap.size 67 ((cs.drop 67).take 7)) := Lib.hid (box_range r0 67)
  have S1 : Hid ((Tryd.prog.info? 38).map (·.size) = some ((cs.drop 2).take 49).length) := Lib.hid (by rw [Tryd.sizeCm]; simp [hs.len])
  have S2 : Hid ((Tryd.prog.info? 43).map (·.size) = some ((cs.drop 51).take 16).length) := Lib.hid (by rw [Tryd.sizeAn]; simp [hs.len])
  have S3 : Hid ((Tryd.prog.info? 47).map (·.size) = some ((cs.drop 67).take 7).length) := Lib.hid (by rw [Tryd.sizeSi]; simp [hs.len])
  have H1 : Hid (Calls Tryd.prog 8 #[.pointer (some ⟨P, 0, none⟩), .agg ((cs.drop 2).take 49).toArray] Y (fun e w' => ∃ z, e = .returned (.int .i64 z) ∧ Hid (z = (if askB s.tag s.verb then 0 else 190) ∧ MG P fr (askM M s.tag s.verb s.uid s.sil s.set) Y w'))) := Lib.hid (by
    obtain ⟨sa, sn, sc, hc, hr⟩ := hs.cmd
    exact (Ask_any P fr M _ _ _ _ _ sa sn sc s.set Y hat hc (hr.on hWY) (by have := hs.setn; omega) hm.q).mono (fun e w' k => ⟨_, k.1, Lib.hid ⟨rfl, k.2⟩⟩))
  have H2 : Hid (Calls Tryd.prog 9 #[.pointer (some ⟨P, 0, none⟩), .agg ((cs.drop 51).take 16).toArray] Y (fun e w' => ∃ z, e = .returned (.int .i64 z) ∧ Hid (z = (if (chgP M s.ans).isSome then 0 else 190) ∧ MG P fr (hearP M s.ans) Y w'))) := Lib.hid (by
    obtain ⟨a, ha, hn⟩ := hs.ans
    rw [ha]
    exact (Hear_any P fr M a s.ans W Y hat hm hn hWY hfr).mono (fun e w' k => ⟨_, k.1, Lib.hid ⟨rfl, k.2⟩⟩))
  have H3 : Hid (Calls Tryd.prog 10 #[.pointer (some ⟨P, 0, none⟩), .agg ((cs.drop 67).take 7).toArray] Y (ResO P fr (resP M s.was) Y)) := Lib.hid (by
    obtain ⟨b, us, fl, kn, nx, hw, hh, hsi⟩ := hs.was
    rw [hw]
    exact HR P fr M b _ nx _ us fl kn s.was W Y hat hWY hfr he hsi rfl rfl hh)
  have HC1 : Hid (s.kind = 1 → ∀ z w', (z = (if askB s.tag s.verb then 0 else 190) ∧ MG P fr (askM M s.tag s.verb s.uid s.sil s.set) Y w') → ActO P fr M s w (.returned (.int .i64 z)) w') := Lib.hid (fun k z w' g => by
    unfold ActO actP actK
    rw [k, if_pos rfl, if_pos rfl]
    exact ⟨by rw [g.1], mg_below b0 g.2⟩)
  have HC2 : Hid (s.kind = 2 → ∀ z w', (z = (if (chgP M s.ans).isSome then 0 else 190) ∧ MG P fr (hearP M s.ans) Y w') → ActO P fr M s w (.returned (.int .i64 z)) w') := Lib.hid (fun k z w' g => by
    unfold ActO actP actK
    rw [k]
    exact ⟨by simp [g.1], by simpa using mg_below b0 g.2⟩)
  have HC3 : Hid (s.kind = 3 → ∀ w', MG P fr (resP M s.was) Y w' → ActO P fr M s w (.returned (.int .i64 0)) w') := Lib.hid (fun k w' g => by
    unfold ActO actP actK
    rw [k]
    exact ⟨by simp, by simpa using mg_below b0 g⟩)
  have HC4 : Hid (s.kind ≠ 1 → s.kind ≠ 2 → s.kind ≠ 3 → ActO P fr M s w (.returned (.int .i64 0)) Y) := Lib.hid (fun k1 k2 k3 => by
    unfold ActO actP actK
    rw [if_neg k1, if_neg k2, if_neg k3, if_neg k1, if_neg k2]
    exact ⟨rfl, MG.below h b0⟩)
  have HY := Lib.hid hY
  clear hY b0 r0 hs hWY hat h hm hW hfr he HR
  obtain ⟨kd, hkd⟩ : ∃ k, s.kind = k := ⟨_, rfl⟩
  rw [hkd] at c0 HC1 HC2 HC3 HC4
  clear hkd
  generalize (cs.drop 2).take 49 = l1 at *
  generalize (cs.drop 51).take 16 = l2 at *
  generalize (cs.drop 67).take 7 = l3 at *
  go_enter Tryd.func15, Tryd.ntmps15
  go_upto_region 1 with fail
  rw [HY.out]
  clear HY
  by_cases k1 : kd = 1
  · subst k1
    go_wp2_with (first | (refine wpList_load_mid rfl 38 _ rfl w.heap.size 2 rfl l1 _ R1.out Tryd.underlying38 rfl S1.out ?_) | (go_at_call 8; refine H1.out.mono ?_; rintro e w1 ⟨z, rfl, HG1⟩))
    go_ret
    exact HC1.out trivial _ _ HG1.out
  · by_cases k2 : kd = 2
    · subst k2
      clear k1
      go_wp2_with (first | (refine wpList_load_mid rfl 43 _ rfl w.heap.size 51 rfl l2 _ R2.out Tryd.underlying43 rfl S2.out ?_) | (go_at_call 9; refine H2.out.mono ?_; rintro e w1 ⟨z, rfl, HG1⟩))
      go_ret
      exact HC2.out trivial _ _ HG1.out
    · by_cases k3 : kd = 3
      · subst k3
        clear k1 k2
        go_wp2_with (first | (refine wpList_load_mid rfl 47 _ rfl w.heap.size 67 rfl l3 _ R3.out Tryd.underlying47 rfl S3.out ?_) | (go_at_call 10; refine H3.out.mono ?_; rintro e w1 ⟨v, rfl, hg⟩; have HG1 := Lib.hid hg; clear hg))
        go_ret
        exact HC3.out trivial _ HG1.out
      · have e1 : (kd == 1) = false := by simpa using k1
        have e2 : (kd == 2) = false := by simpa using k2
        have e3 : (kd == 3) = false := by simpa using k3
        have HK := Lib.hid (And.intro k1 (And.intro k2 k3))
        clear k1 k2 k3
        go_wp2_with fail
        go_ret
        exact HC4.out HK.out.1 HK.out.2.1 HK.out.2.2
end Go.Proofs.YtlmlbcnjohjnlaaDoor

/- mirror: Resync, of any sight. -/
namespace Go.Proofs.YtlmlbcnjohjnlaaDoor
open Go.RowKit

theorem resync_all : ResA := by
  intro P fr M b v nx h us fl kn s W w hat hW hfr he hsi hv hh hmax
  obtain ⟨ua, uc, eu, _⟩ := hsi.u
  obtain ⟨ka, kc, ek, _⟩ := hsi.k
  obtain ⟨fvs, ⟨fa, fc, ef, _⟩, _⟩ := hsi.f
  subst eu ek ef
  unfold resP
  by_cases h1 : M.sel = false
  · rw [if_pos (.inl h1)]
    exact resync_no P fr M b v nx h ua fa ka _ _ _ uc fc kc w hat h1
  · have h1' : M.sel = true := by simpa using h1
    by_cases h2 : M.rows.length = 0
    · rw [if_pos (.inr h2)]
      exact resync_empty P fr M b v nx h ua fa ka _ _ _ uc fc kc w hat h1' h2
    · rw [if_neg (fun e => e.elim h1 h2)]
      by_cases h3 : v ≠ M.v ∨ h ≤ 0
      · rw [if_pos (by rw [hv, hh]; exact h3)]
        obtain ⟨q, rows, was, hM, hQ, hR, hWs⟩ := hat.ex
        obtain ⟨rs, hr1, hr2, hr3⟩ := hR
        obtain ⟨ra, rc, rfl⟩ := hr1.shape
        rw [h1'] at hM
        refine (Resync_far P q M.v M.n M.h ra M.rows.length rc was M.bg b v nx h ua fa ka _ _ _ uc fc kc w hM (by omega) h3).mono ?_
        rintro e w' ⟨g, gs, ia, ic, rfl, hst, hm, _⟩
        have kt : KeepT [75] w w' := KeepT.of hst (fun b hb => by simp at hb; subst hb; exact ⟨_, _, _, hM, by simp⟩)
        refine ⟨_, rfl, fr, ⟨⟨q, _, _, ?_, hQ.kt kt (by decide) (by decide) (fun _ e => e), RIn.kt ⟨rs, hr1, hr2, hr3⟩ kt (by decide) (by decide) (fun _ e => e), WasIn.nil⟩, hat.pin, fun b hb => Nat.lt_of_lt_of_le (hat.lt b hb) hst.size⟩, hst.mono (fun b e => by simp at e; exact e ▸ hat.pin), fun _ e => .inl e⟩
        rw [show ({ M with was := fun _ => none } : PM).sel = true from h1']
        exact hm
      · rw [if_neg (by rw [hv, hh]; exact h3)]
        exact resync_near P fr M b v nx h ua fa ka _ _ _ uc fc kc W w hat hW hfr he s ⟨hv, hh⟩ hmax hsi h1' h2 (by
          by_cases k : v = M.v
          · exact k
          · exact absurd (Or.inl k) h3) (fun k => h3 (.inr k))
end Go.Proofs.YtlmlbcnjohjnlaaDoor

/- mirror: what stays small, step by step. -/
namespace Go.Proofs.YtlmlbcnjohjnlaaDoor
open Go.RowKit

/-- What is small behind k steps. -/
structure SmM (k : Nat) (M : PM) : Prop where
  q : M.q.length ≤ k
  sets : ∀ c ∈ M.q, c.set.length ≤ 4000
  rows : M.rows.length ≤ 262144
  fl : ∀ r ∈ M.rows, r.fl.length ≤ 1000000
  was : ∀ x l, M.was x = some l → l.length ≤ 1000000
theorem SmM.up {k j : Nat} {M : PM} (h : SmM k M) (hj : k ≤ j) : SmM j M := ⟨Nat.le_trans h.q hj, h.sets, h.rows, h.fl, h.was⟩
theorem SmM.smq {k : Nat} {M : PM} (h : SmM k M) (hk : k ≤ 1000000) : SmQ M := ⟨Nat.le_trans h.q hk, by have := h.rows; omega, fun c hc => by have := h.sets c hc; omega⟩
theorem SmM.small {k : Nat} {M : PM} (h : SmM k M) (hk : k ≤ 1000000) : SmallM M := ⟨by have := h.rows; omega, h.fl, Nat.le_trans h.q hk⟩
theorem SmM.nop {k : Nat} {M : PM} (h : SmM k M) : SmM k (nopM M) := ⟨h.q, h.sets, by simp [nopM], fun r hr => by simp [nopM] at hr, fun x l e => by simp [nopM] at e⟩
theorem SmM.ask {k : Nat} {M : PM} (h : SmM k M) (tag : ByteArray) (verb : Int) (uid sil : Bool) (l : List Rg) (hl : l.length ≤ 4000) : SmM (k + 1) (askM M tag verb uid sil l) := by
  unfold askM
  split
  · refine ⟨by have := h.q; simp; omega, fun c hc => ?_, h.rows, h.fl, h.was⟩
    rcases List.mem_append.1 hc with hc | hc
    · exact h.sets c hc
    · simp at hc
      subst hc
      simp only
      split
      · exact hl
      · simp
  · exact h.up (by omega)
theorem SmM.bg {k : Nat} {M : PM} (h : SmM k M) (b : Bool) : SmM k (bgM b M) := by
  unfold bgM
  split
  · exact ⟨h.nop.q, h.nop.sets, h.nop.rows, h.nop.fl, h.nop.was⟩
  · exact h
theorem forget_len (c : PA) : ∀ (l : List PR) (i : Nat), (forgetL c i l).length = l.length
  | [], _ => rfl
  | r :: l, i => by simp [forgetL, forget_len c l]
theorem forget_fl (c : PA) : ∀ (l : List PR) (i : Nat), (∀ r ∈ l, r.fl.length ≤ 1000000) → ∀ r ∈ forgetL c i l, r.fl.length ≤ 1000000
  | [], _, _, r, hr => by simp [forgetL] at hr
  | r0 :: l, i, h, r, hr => by
    simp only [forgetL, List.mem_cons] at hr
    rcases hr with rfl | hr
    · split
      · simp
      · exact h r0 (by simp)
    · exact forget_fl c l (i + 1) (fun r hr => h r (by simp [hr])) r hr
theorem SmM.done {k : Nat} {N : PM} (h : SmM k N) (c : PA) (out : Int) : SmM k (doneM N c out) := by
  have h0 : SmM k { N with q := N.q.tail, bg := false } := ⟨by have := h.q; simp; omega, fun c hc => h.sets c (List.mem_of_mem_tail hc), h.rows, h.fl, h.was⟩
  unfold doneM
  simp only
  split
  · exact ⟨h0.q, h0.sets, h0.rows, h0.fl, h0.was⟩
  · split
    · exact h0.nop
    · split
      · exact ⟨h0.q, h0.sets, by have := h.rows; simpa [forget_len] using this, forget_fl c _ 0 h.fl, h0.was⟩
      · exact h0
theorem learn_sm {k : Nat} {M : PM} (h : SmM k M) {i : Nat} {d d' : PD} {x : ByteArray × PV} (hx : x.2.kids.length ≤ 1000000) (hd : d.r.fl.length ≤ 1000000) (e : learnD M i d x = some d') : d'.r.fl.length ≤ 1000000 := by
  unfold learnD at e
  split at e
  · unfold learnUid at e
    split at e
    · cases e
    · split at e
      · split at e
        · injection e with e; subst e; exact hd
        · cases e
      · split at e
        · cases e
        · split at e
          · rename_i f hf
            split at e
            · injection e with e; subst e; exact hd
            · injection e with e; subst e; exact h.was _ _ hf
          · injection e with e; subst e; exact hd
  · split at e
    · unfold learnFlags at e
      split at e
      · split at e
        · injection e with e; subst e; exact Nat.le_trans (flK_len _) hx
        · cases e
      · cases e
    · split at e
      · unfold learnModseq at e
        split at e
        · split at e
          · split at e
            · injection e with e; subst e; exact hd
            · cases e
          · cases e
        · cases e
      · injection e with e; subst e; exact hd
theorem learnAll_sm {k : Nat} {M : PM} (h : SmM k M) {i : Nat} : ∀ {data : List (ByteArray × PV)} {d d' : PD}, (∀ x ∈ data, x.2.kids.length ≤ 1000000) → d.r.fl.length ≤ 1000000 → learnAll M i d data = some d' → d'.r.fl.length ≤ 1000000
  | [], d, d', _, hd, e => by simp [learnAll] at e; subst e; exact hd
  | x :: data, d, d', hx, hd, e => by
    unfold learnAll at e
    split at e
    · cases e
    · rename_i d1 h1
      exact learnAll_sm h (fun x hx' => hx x (by simp [hx'])) (learn_sm h (hx x (by simp)) hd h1) e
/-- An answer changes no more. -/
theorem SmM.chg {k : Nat} {M N : PM} {n : PN} {f : PM → PM} (hM : SmM k M) (hN : SmM k N) (hd : ∀ x ∈ n.data, x.2.kids.length ≤ 1000000) (e : chgP M n = some f) : SmM k (f N) := by
  unfold chgP at e
  split at e
  · cases e
  · split at e
    · cases e
    · split at e
      · unfold staP at e
        split at e
        · cases e
        · split at e
          · unfold ansF at e
            split at e
            · cases e
            · split at e
              · cases e
              · injection e with e; subst e; exact hN.done _ _
          · split at e
            · injection e with e; subst e; exact hN.nop
            · split at e
              · unfold codP at e
                split at e
                · split at e
                  · cases e
                  · split at e
                    · split at e
                      · injection e with e; subst e
                        simp only
                        split
                        · exact ⟨hN.q, hN.sets, hN.rows, hN.fl, hN.was⟩
                        · split
                          · exact ⟨hN.q, hN.sets, hN.rows, hN.fl, hN.was⟩
                          · exact ⟨hN.q, hN.sets, hN.rows, hN.fl, hN.was⟩
                      · injection e with e; subst e; exact hN
                    · cases e
                · injection e with e; subst e; exact hN
              · injection e with e; subst e; exact hN
      · split at e
        · unfold exF at e
          split at e
          · cases e
          · rename_i hx
            split at e
            · injection e with e; subst e
              exact ⟨hN.q, hN.sets, by simp; omega, fun r hr => by rw [List.eq_of_mem_replicate hr]; simp [PR0], hN.was⟩
            · split at e
              · cases e
              · injection e with e; subst e
                refine ⟨hN.q, hN.sets, by have := hN.rows; simp; omega, fun r hr => ?_, hN.was⟩
                rcases List.mem_append.1 hr with hr | hr
                · exact hN.fl r hr
                · rw [List.eq_of_mem_replicate hr]; simp [PR0]
        · split at e
          · unfold expF at e
            split at e
            · cases e
            · injection e with e; subst e
              exact ⟨hN.q, hN.sets, Nat.le_trans (List.length_eraseIdx_le _ _) hN.rows, fun r hr => hN.fl r (List.mem_of_mem_eraseIdx hr), hN.was⟩
          · split at e
            · unfold fetF at e
              split at e
              · cases e
              · obtain ⟨d, hd', rfl⟩ := Option.map_eq_some_iff.1 e
                have hr0 : (M.rows.getD (n.num - 1).toNat PR0).fl.length ≤ 1000000 := by
                  rw [List.getD_eq_getElem?_getD]
                  cases hg : M.rows[(n.num - 1).toNat]? with
                  | none => simp [PR0]
                  | some r => exact hM.fl r (List.mem_of_getElem? hg)
                have := learnAll_sm hM hd hr0 hd'
                refine ⟨hN.q, hN.sets, by have := hN.rows; simpa [putD] using this, fun r hr => ?_, hN.was⟩
                rcases List.mem_or_eq_of_mem_set hr with hr | rfl
                · exact hN.fl r hr
                · exact this
            · injection e with e; subst e; exact hN
theorem SmM.hear {k : Nat} {M : PM} {n : PN} (hM : SmM k M) (hd : ∀ x ∈ n.data, x.2.kids.length ≤ 1000000) : SmM k (hearP M n) := by
  unfold hearP
  split
  · exact hM
  · rename_i f e
    exact hM.chg (hM.bg _) hd e
theorem remG_sm (s : PS) (h : ∀ i, (s.flags.getD i []).length ≤ 1000000) : ∀ (j : Nat) x l, remG s j x = some l → l.length ≤ 1000000
  | 0, x, l, e => by simp [remG] at e
  | j + 1, x, l, e => by
    unfold remG remS at e
    split at e
    · split at e
      · injection e with e; subst e; exact h _
      · cases e
    · exact remG_sm s h j x l e
theorem SmM.res {k : Nat} {M : PM} {s : PS} (hM : SmM k M) (h : ∀ i, (s.flags.getD i []).length ≤ 1000000) : SmM k (resP M s) := by
  have h0 : SmM k { M with was := fun _ => none } := ⟨hM.q, hM.sets, hM.rows, hM.fl, fun x l e => by cases e⟩
  unfold resP
  split
  · exact h0
  · split
    · exact h0
    · exact ⟨hM.q, hM.sets, hM.rows, hM.fl, fun x l e => remG_sm s h _ x l e⟩
theorem DataA.kids {X : World} {v : Value} {l : List (ByteArray × PV)} (h : DataA X v l) : ∀ x ∈ l, x.2.kids.length ≤ 1000000 := by
  intro x hx
  obtain ⟨j, hj, rfl⟩ := List.mem_iff_getElem.1 hx
  obtain ⟨a, c, _, _, h⟩ := h
  obtain ⟨g, o, _, _, h⟩ := h (by omega)
  obtain ⟨t, ka, kn, kc, _, _, _, _, _, hk⟩ := h j _ (List.getElem?_eq_getElem hj)
  obtain ⟨_, _, _, hl, _⟩ := hk
  exact hl
theorem SiA.fls {X : World} {us fl kn : Value} {s : PS} (h : SiA X us fl kn s) : ∀ i, (s.flags.getD i []).length ≤ 1000000 := by
  intro i
  obtain ⟨fvs, _, hall⟩ := h.f
  rw [List.getD_eq_getElem?_getD]
  cases hg : s.flags[i]? with
  | none => simp
  | some t =>
    obtain ⟨fv, _, _, _, _, hl, _⟩ := hall.gets i t hg
    simpa using hl
theorem SmM.act {k : Nat} {M : PM} {s : PX} {W : World} {cs : List Value} (hM : SmM k M) (hs : StF W cs s) : SmM (k + 1) (actP M s) := by
  unfold actP
  split
  · exact hM.ask _ _ _ _ _ hs.setn
  · split
    · obtain ⟨a, _, ha⟩ := hs.ans
      exact (hM.hear ha.data.kids).up (by omega)
    · split
      · obtain ⟨b, us, fl, kn, nx, _, _, hsi⟩ := hs.was
        exact (hM.res hsi.fls).up (by omega)
      · exact hM.up (by omega)
theorem SmM.zero : SmM 0 PM0 := ⟨by simp [PM0], fun c hc => by simp [PM0] at hc, by simp [PM0], fun r hr => by simp [PM0] at hr, fun x l e => by simp [PM0] at e⟩
end Go.Proofs.YtlmlbcnjohjnlaaDoor

/- mirror: a sight is new memory; two mirrors apart. -/
namespace Go.Proofs.YtlmlbcnjohjnlaaDoor
open Go.RowKit

/-- A sight that stands wherever the blocks from B on stand as they do. -/
def SiF (B : Nat) (X : World) (us fl kn : Value) (s : PS) : Prop := ∀ Z : World, X.heap.size ≤ Z.heap.size → (∀ b, B ≤ b → b < X.heap.size → Z.heap[b]? = X.heap[b]?) → SiA Z us fl kn s
def SightF (M : PM) (w : World) (e : Ending) (w' : World) : Prop := ∃ us fl kn, e = .returned (.agg (siC (sightP M).sel (sightP M).v (sightP M).n (sightP M).h us fl kn)) ∧ Below w.heap.size w w' ∧ SiF w.heap.size w' us fl kn (sightP M)
theorem Sight_F {P : Nat} {fr : List Nat} {M : PM} {w : World} (h : MAt P fr M w) (hs : SmallM M) : Calls Tryd.prog 12 #[.pointer (some ⟨P, 0, none⟩)] w (SightF M w) := by
  refine (Sight_any P fr M w h hs).mono ?_
  intro e w' hk
  unfold SightOut at hk
  unfold SightF sightP
  by_cases hsel : M.sel = true
  · rw [if_pos hsel] at hk
    obtain ⟨us, fl, kn, rfl, hb, ⟨ru, ⟨fvs, rf, hall⟩, rk, l1, l2, l3⟩⟩ := hk
    simp only [hsel, if_true]
    refine ⟨us, fl, kn, rfl, hb, fun Z hz hZ => ?_⟩
    have ru' := ownsRow_same ru (fun b e => hZ b (l1 b e) (ru.lt b e).2)
    have rf' := ownsRow_same rf (fun b e => hZ b (l2 b e) (rf.lt b e).2)
    have rk' := ownsRow_same rk (fun b e => hZ b (l3 b e) (rk.lt b e).2)
    refine ⟨?_, ?_, fvs, lis_row rf' hs.rows, ?_⟩
    · have := lis_row ru' hs.rows
      unfold uiV at this
      simpa [List.map_map, Function.comp_def] using this
    · have := lis_row rk' hs.rows
      unfold knV at this
      simpa [List.map_map, Function.comp_def] using this
    · have go : ∀ (l : List Value) (L : List PR), (∀ p ∈ L, p.fl.length ≤ 1000000) → All2 (fun fv p => StrsNew w.heap.size w' fv p.fl) l L → All2 (fun fv (t : List ByteArray) => LisA Z fv (t.map .string)) l (L.map (·.fl))
          := fun l => by
        induction l with
        | nil => intro L hL h; cases L with
          | nil => trivial
          | cons _ _ => exact h.elim
        | cons a l ih => intro L hL h; cases L with
          | nil => exact h.elim
          | cons p L =>
            obtain ⟨⟨nb, h1, h3⟩, h2⟩ := h
            refine ⟨lis_strs (h1.on (fr' := nb) (fun b hb => ?_) (fun _ e => e)) (hL p (by simp)), ih L (fun p' hp' => hL p' (by simp [hp'])) h2⟩
            obtain ⟨k1, cs, fz, k2⟩ := h3 b hb
            exact hZ b k1 (lt_of_heap k2)
      exact go fvs M.rows hs.fl hall
  · rw [if_neg hsel] at hk
    obtain ⟨rfl, hb⟩ := hk
    simp only [hsel]
    exact ⟨_, _, _, rfl, hb, fun Z _ _ => ⟨LisA.nil _, LisA.nil _, [], LisA.nil _, trivial⟩⟩
theorem SiF.here {B : Nat} {X : World} {us fl kn : Value} {s : PS} (h : SiF B X us fl kn s) : SiA X us fl kn s := h X (Nat.le_refl _) (fun _ _ _ => rfl)
theorem stays_low {W X X' : World} {fr : List Nat} (hb : Below W.heap.size W X) (hs : Stays fr X X') (lo : ∀ b, b ∈ fr → W.heap.size ≤ b) : Below W.heap.size W X' :=
  ⟨hs.os.trans hb.os, hs.tape.trans hb.tape, hs.output.trans hb.output, Nat.le_trans hb.size hs.size, fun b hlt => by
    rw [hs.block b (Nat.lt_of_lt_of_le hlt hb.size) (fun e => by have := lo b e; omega)]
    exact hb.block b hlt⟩
/-- Two mirrors, apart from one another and from what came in. -/
structure Half (W : World) (P1 P2 : Nat) (M1 M2 : PM) (fr1 fr2 : List Nat) (X : World) : Prop where
  bel : Below W.heap.size W X
  m1 : MAt P1 fr1 M1 X
  m2 : MAt P2 fr2 M2 X
  lo1 : ∀ b, b ∈ fr1 → W.heap.size ≤ b
  lo2 : ∀ b, b ∈ fr2 → W.heap.size ≤ b
  apart : ∀ b, b ∈ fr1 → b ∉ fr2
theorem Half.first {W : World} {P1 P2 : Nat} {M1 M2 M' : PM} {fr1 fr2 : List Nat} {X X' : World} (h : Half W P1 P2 M1 M2 fr1 fr2 X) (hg : MG P1 fr1 M' X X') : ∃ fr', Half W P1 P2 M' M2 fr' fr2 X' ∧ Stays fr1 X X' := by
  obtain ⟨fr', g1, g2, g3⟩ := hg
  refine ⟨fr', ⟨stays_low h.bel g2 h.lo1, g1, h.m2.on (fun b e => g2.block b (h.m2.lt b e) (fun e1 => h.apart b e1 e)) g2.size, fun b e => (g3 b e).elim (h.lo1 b) (fun k => Nat.le_trans h.bel.size k), h.lo2, fun b e e2 => (g3 b e).elim (fun k => h.apart b k e2) (fun k => by have := h.m2.lt b e2; omega)⟩, g2⟩
theorem Half.on {W : World} {P1 P2 : Nat} {M1 M2 : PM} {fr1 fr2 : List Nat} {X X' : World} (h : Half W P1 P2 M1 M2 fr1 fr2 X) (hb : Below X.heap.size X X') : Half W P1 P2 M1 M2 fr1 fr2 X' :=
  ⟨h.bel.trans (hb.mono h.bel.size), h.m1.bel hb, h.m2.bel hb, h.lo1, h.lo2, h.apart⟩
theorem new_MAt (w : World) : MAt w.heap.size [w.heap.size] PM0 (w.alloc (mirO (.slice none 0 0) false 0 0 0 (.slice none 0 0) (.map none) false)) := by
  refine ⟨⟨.slice none 0 0, .slice none 0 0, .map none, heap_new _ _, ⟨[], ⟨by simp [PM0, akL], .inl ⟨rfl, rfl⟩⟩, (fun b e => by cases e), trivial⟩, ⟨[], ⟨by simp [PM0, rwL], .inl ⟨rfl, rfl⟩⟩, (fun b e => by cases e), trivial⟩, .inl ⟨rfl, rfl⟩⟩, by simp, fun b hb => by simp at hb; subst hb; simp⟩
theorem sight_lens (M : PM) : (sightP M).flags.length = (sightP M).uids.length ∧ (sightP M).known.length = (sightP M).uids.length := by
  unfold sightP
  split <;> simp
end Go.Proofs.YtlmlbcnjohjnlaaDoor

/- The statement MirrorIgnores: its walk. -/
namespace Go.Proofs.YtlmlbcnjohjnlaaDoor
open Go.RowKit

/-- A sight as a call answers it. -/
structure SgO (B : Nat) (s : PS) (S : Array Value) (X : World) : Prop where
  size : S.size = 7
  one : S.all (·.oneCell') = true
  ex : ∃ us fl kn, S = siC s.sel s.v s.n s.h us fl kn ∧ SiF B X us fl kn s
theorem Sight_O {P : Nat} {fr : List Nat} {M : PM} {w : World} (h : MAt P fr M w) (hs : SmallM M) : Calls Tryd.prog 12 #[.pointer (some ⟨P, 0, none⟩)] w fun e w' => ∃ S, e = .returned (.agg S) ∧ Hid (Below w.heap.size w w' ∧ SgO w.heap.size (sightP M) S w') := by
  refine (Sight_F h hs).mono ?_
  rintro e w' ⟨us, fl, kn, rfl, hb, hf⟩
  refine ⟨_, rfl, Lib.hid ⟨hb, ⟨rfl, ?_, us, fl, kn, rfl, hf⟩⟩⟩
  obtain ⟨_, _, e1, _⟩ := hf.here.u
  obtain ⟨_, _, e2, _⟩ := hf.here.k
  obtain ⟨_, ⟨_, _, e3, _⟩, _⟩ := hf.here.f
  subst e1 e2 e3
  simp [siC, Value.oneCell']
end Go.Proofs.YtlmlbcnjohjnlaaDoor
