/- mirror: what is remembered. -/
import Derived.Test.YtlmlbcnjohjnlaaDoorP19a
import Derived.Maps.OwnSet
namespace Go.Proofs.YtlmlbcnjohjnlaaDoor
open Go.RowKit Go.MapKept

theorem delete_by_run {ops : Array Oper} {rest : List Oper} {o : Oper} {a : Act} {Q : Exit → Act → World → Prop} {w : World} (hgd : o.guard = none) (s x : Operand) (ts : Array TypeId)
    (ho : o.op = .call { callee := .builtin .delete, args := #[s, x], argTypes := ts }) (u v : Value) (hs : a.eval s = u) (hx : a.eval x = v) (v' : Value) (w' : World)
    (hr : (Builtin.delete_ ts o.type #[u, v]).run Tryd.prog w = .ok v' w') (h : wpList Tryd.prog ops Q rest (a.put o.dst v') w') : wpList Tryd.prog ops Q (o :: rest) a w := by
  refine wpList_plain hgd fun K hK => ?_
  unfold Oper.wp execOp
  simp only [ho, resolve, invoke, builtin, Sem.run_bind, Sem.run_pure, Result.andThen_ok, List.map_toArray, List.map_cons, List.map_nil, hs, hx, hr]
  exact hK _ _ h
def mpI (F : List WE) (clk : Nat) : Obj := .map (F.map WE.entry).toArray clk
/-- A map in memory says what f says. -/
structure RM (B : Nat) (X : World) (F : List WE) (f : Int → Option (List ByteArray)) : Prop where
  nd : F.Pairwise (fun a b => a.uid ≠ b.uid)
  mem : ∀ e ∈ F, ∃ l, StrsNew B X e.fv l ∧ f e.uid = some l
  out : ∀ u, (∀ e ∈ F, e.uid ≠ u) → f u = none
theorem keepS_map {X : World} {m : Nat} {F F' : List WE} {clk clk' : Nat} (h : X.heap[m]? = some (mpI F clk)) : KeepS X (putObj X m (mpI F' clk')) := fun b cs f e => by
  rw [putObj_ne _ (fun e2 => by subst e2; rw [h] at e; unfold mpI at e; cases e)]
  exact e
theorem RM.ks {B : Nat} {X X' : World} {F : List WE} {f : Int → Option (List ByteArray)} (h : RM B X F f) (k : KeepS X X') : RM B X' F f := ⟨h.nd, fun e he => by
  obtain ⟨l, h1, h2⟩ := h.mem e he
  exact ⟨l, h1.ks k, h2⟩, h.out⟩
theorem lmod (g : MapEntry → MapEntry) (e : MapEntry) (F2 : List MapEntry) : ∀ F1 : List MapEntry, (F1 ++ e :: F2).modify F1.length g = F1 ++ g e :: F2
  | [] => rfl
  | a :: l => by
    have := lmod g e F2 l
    simpa [List.modify] using this
theorem mod_at (es : List MapEntry) (F1 : List MapEntry) (e : MapEntry) (F2 : List MapEntry) (he : es = F1 ++ e :: F2) (g : MapEntry → MapEntry) : es.toArray.modify F1.length g = (F1 ++ g e :: F2).toArray := by
  subst he
  apply Array.ext'
  simpa using lmod g e F2 F1
theorem run_updateI {w : World} {m clk : Nat} (n : Int) (v : Value) (F1 : List WE) (f : WE) (F2 : List WE) (h : w.heap[m]? = some (mpI (F1 ++ f :: F2) clk)) (hn : f.uid = n) (h1 : ∀ g, g ∈ F1 → g.uid ≠ n) :
    (Instr.mapUpdate 71 (.map (some m)) (.int .i64 n) v).run Tryd.prog w = .ok () (putObj w m (mpI (F1 ++ { f with fv := v } :: F2) clk)) := by
  have hc := run_checkKey (P := Tryd.prog) (w := w) Tryd.underlying3 (keyI n) false 9999
  have hf := findI_hit n F1 f F2 hn h1 0
  rw [Nat.zero_add] at hf
  have hk := run_findKey (P := Tryd.prog) (w := w) Tryd.underlying3 hf
  have hks : ∀ X : World, (Instr.keyThatStays (.int .i64 f.uid) (.int .i64 n)).run Tryd.prog X = .ok (.int .i64 n) X := fun X => by
    rw [hn]
    simp [Instr.keyThatStays, Instr.sameBits]
  have hg : (((F1 ++ f :: F2).map WE.entry).toArray[F1.length]?).map (·.key) = some (.int .i64 f.uid) := by simp [WE.entry]
  have hm := mod_at ((F1 ++ f :: F2).map WE.entry) (F1.map WE.entry) f.entry (F2.map WE.entry) (by simp) (fun e => { e with key := .int .i64 n, val := v })
  rw [List.length_map] at hm
  have hgm := Go.MapKept.run_getObj_map (P := Tryd.prog) (show w.heap[m]? = some (.map ((F1 ++ f :: F2).map WE.entry).toArray clk) from h)
  unfold Instr.mapUpdate
  simp only [run_underlying Tryd.underlying71, hgm, hc, hk, Sem.run_bind, Result.andThen, hg, Option.getD_some, hks]
  rw [hm, Go.MapKept.run_setObj_map _ (show w.heap[m]? = some (.map ((F1 ++ f :: F2).map WE.entry).toArray clk) from h)]
  simp [putObj, mpI, WE.entry, hn]
theorem erase_at (F1 : List MapEntry) (e : MapEntry) (F2 : List MapEntry) : (F1 ++ e :: F2).toArray.eraseIdxIfInBounds F1.length = (F1 ++ F2).toArray := by
  apply Array.ext'
  simp [Array.eraseIdxIfInBounds, List.eraseIdx_append_of_length_le]
/-- A number is put. -/
theorem rm_put {B m clk : Nat} {X : World} {F : List WE} {f : Int → Option (List ByteArray)} (h : X.heap[m]? = some (mpI F clk)) (r : RM B X F f) (u : Int) (v : Value) (l : List ByteArray) (hv : StrsNew B X v l) :
    ∃ F' clk', (Instr.mapUpdate 71 (.map (some m)) (.int .i64 u) v).run Tryd.prog X = .ok () (putObj X m (mpI F' clk')) ∧ RM B (putObj X m (mpI F' clk')) F' (fun x => if x = u then some l else f x) := by
  rcases we_split u F with ⟨F1, e, F2, rfl, he, hn⟩ | hn
  · refine ⟨_, _, run_updateI u v F1 e F2 h he hn, ?_⟩
    have hnd := r.nd
    rw [List.pairwise_append, List.pairwise_cons] at hnd
    have r' : RM B X (F1 ++ { e with fv := v } :: F2) (fun x => if x = u then some l else f x) := by
      refine ⟨?_, fun g hg => ?_, fun x hx => ?_⟩
      · rw [List.pairwise_append, List.pairwise_cons]
        exact ⟨hnd.1, hnd.2.1, fun a ha b hb => by
          rcases List.mem_cons.1 hb with rfl | hb
          · exact hnd.2.2 a ha e (by simp)
          · exact hnd.2.2 a ha b (by simp [hb])⟩
      · rw [List.mem_append, List.mem_cons] at hg
        rcases hg with hg | rfl | hg
        · obtain ⟨l', h1, h2⟩ := r.mem g (by simp [hg])
          exact ⟨l', h1, by rw [if_neg (hn g hg)]; exact h2⟩
        · exact ⟨l, hv, by rw [if_pos he]⟩
        · obtain ⟨l', h1, h2⟩ := r.mem g (by simp [hg])
          exact ⟨l', h1, by rw [if_neg (fun e2 => hnd.2.1.1 g hg (he.trans e2.symm))]; exact h2⟩
      · have hxu : x ≠ u := fun e2 => hx { e with fv := v } (by simp) (he.trans e2.symm)
        rw [if_neg hxu]
        exact r.out x (fun g hg => by
          rw [List.mem_append, List.mem_cons] at hg
          rcases hg with hg | rfl | hg
          · exact hx g (by simp [hg])
          · exact fun e2 => hxu (e2.symm.trans he)
          · exact hx g (by simp [hg]))
    exact r'.ks (keepS_map h)
  · have hf := findI_no u F hn 0
    have hr := run_insertI u v (show X.heap[m]? = some (.map (F.map WE.entry).toArray clk) from h) (by simpa using hf)
    refine ⟨F ++ [⟨u, v, clk⟩], clk + 1, ?_, ?_⟩
    · rw [hr]
      simp [mpI, WE.entry]
    · have r' : RM B X (F ++ [⟨u, v, clk⟩]) (fun x => if x = u then some l else f x) := by
        refine ⟨?_, fun g hg => ?_, fun x hx => ?_⟩
        · rw [List.pairwise_append]
          exact ⟨r.nd, by simp, fun a ha b hb => by simp at hb; subst hb; exact hn a ha⟩
        · rw [List.mem_append, List.mem_singleton] at hg
          rcases hg with hg | rfl
          · obtain ⟨l', h1, h2⟩ := r.mem g hg
            exact ⟨l', h1, by rw [if_neg (hn g hg)]; exact h2⟩
          · exact ⟨l, hv, by simp⟩
        · have hxu : x ≠ u := fun e2 => hx ⟨u, v, clk⟩ (by simp) e2.symm
          rw [if_neg hxu]
          exact r.out x (fun g hg => hx g (by simp [hg]))
      exact r'.ks (keepS_map h)
theorem run_deleteI {w : World} {m clk : Nat} {es : Array MapEntry} (ty : TypeId) (u : Int) (h : w.heap[m]? = some (.map es clk)) {i : Nat} {v : Value} (hf : Instr.findNow (.int .i64) (.int .i64 u) es.toList 0 = some (some (i, v))) :
    (Builtin.delete_ #[71, 3] ty #[.map (some m), .int .i64 u]).run Tryd.prog w = .ok (.tuple #[]) (putObj w m (.map (es.eraseIdxIfInBounds i) clk)) := by
  have hc := run_checkKey (P := Tryd.prog) (w := w) Tryd.underlying3 (keyI u) es.isEmpty 9999
  have hk := run_findKey (P := Tryd.prog) (w := w) Tryd.underlying3 hf
  simp [Builtin.delete_, run_underlying Tryd.underlying71, Go.MapKept.run_getObj_map h, hc, hk, Go.MapKept.run_setObj_map _ h, Sem.run_bind, Result.andThen, putObj]
theorem run_deleteI0 {w : World} {m clk : Nat} {es : Array MapEntry} (ty : TypeId) (u : Int) (h : w.heap[m]? = some (.map es clk)) (hf : Instr.findNow (.int .i64) (.int .i64 u) es.toList 0 = some none) :
    (Builtin.delete_ #[71, 3] ty #[.map (some m), .int .i64 u]).run Tryd.prog w = .ok (.tuple #[]) (putObj w m (.map es clk)) := by
  have hc := run_checkKey (P := Tryd.prog) (w := w) Tryd.underlying3 (keyI u) es.isEmpty 9999
  have hk := run_findKey (P := Tryd.prog) (w := w) Tryd.underlying3 hf
  simp [Builtin.delete_, run_underlying Tryd.underlying71, Go.MapKept.run_getObj_map h, hc, hk, Go.MapKept.run_setObj_map _ h, Sem.run_bind, Result.andThen, putObj]
/-- A number is taken out. -/
theorem rm_del {B m clk : Nat} {X : World} {F : List WE} {f : Int → Option (List ByteArray)} (h : X.heap[m]? = some (mpI F clk)) (r : RM B X F f) (u : Int) :
    ∃ F' clk', (∀ ty, (Builtin.delete_ #[71, 3] ty #[.map (some m), .int .i64 u]).run Tryd.prog X = .ok (.tuple #[]) (putObj X m (mpI F' clk'))) ∧ RM B (putObj X m (mpI F' clk')) F' (fun x => if x = u then none else f x) := by
  rcases we_split u F with ⟨F1, e, F2, rfl, he, hn⟩ | hn
  · have hf := findI_hit u F1 e F2 he hn 0
    rw [Nat.zero_add] at hf
    have her := erase_at (F1.map WE.entry) e.entry (F2.map WE.entry)
    rw [List.length_map] at her
    refine ⟨F1 ++ F2, clk, fun ty => ?_, ?_⟩
    · have hr := run_deleteI ty u (show X.heap[m]? = some (.map ((F1 ++ e :: F2).map WE.entry).toArray clk) from h) (by simpa using hf)
      rw [hr, List.map_append, List.map_cons, her]
      simp [mpI]
    · have hnd := r.nd
      rw [List.pairwise_append, List.pairwise_cons] at hnd
      have r' : RM B X (F1 ++ F2) (fun x => if x = u then none else f x) := by
        refine ⟨?_, fun g hg => ?_, fun x hx => ?_⟩
        · rw [List.pairwise_append]
          exact ⟨hnd.1, hnd.2.1.2, fun a ha b hb => hnd.2.2 a ha b (by simp [hb])⟩
        · rw [List.mem_append] at hg
          rcases hg with hg | hg
          · obtain ⟨l', h1, h2⟩ := r.mem g (by simp [hg])
            exact ⟨l', h1, by rw [if_neg (hn g hg)]; exact h2⟩
          · obtain ⟨l', h1, h2⟩ := r.mem g (by simp [hg])
            exact ⟨l', h1, by rw [if_neg (fun e2 => hnd.2.1.1 g hg (he.trans e2.symm))]; exact h2⟩
        · by_cases hxu : x = u
          · rw [if_pos hxu]
          · rw [if_neg hxu]
            exact r.out x (fun g hg => by
              rw [List.mem_append, List.mem_cons] at hg
              rcases hg with hg | rfl | hg
              · exact hx g (by simp [hg])
              · exact fun e2 => hxu (e2.symm.trans he)
              · exact hx g (by simp [hg]))
      exact r'.ks (keepS_map h)
  · have hf := findI_no u F hn 0
    refine ⟨F, clk, fun ty => ?_, ?_⟩
    · exact run_deleteI0 ty u (show X.heap[m]? = some (.map (F.map WE.entry).toArray clk) from h) (by simpa using hf)
    · have r' : RM B X F (fun x => if x = u then none else f x) := ⟨r.nd, fun g hg => by
          obtain ⟨l', h1, h2⟩ := r.mem g hg
          exact ⟨l', h1, by rw [if_neg (hn g hg)]; exact h2⟩, fun x hx => by
          by_cases hxu : x = u
          · rw [if_pos hxu]
          · rw [if_neg hxu]; exact r.out x hx⟩
      exact r'.ks (keepS_map h)
end Go.Proofs.YtlmlbcnjohjnlaaDoor

/- mirror: what is remembered of a sight. -/
namespace Go.Proofs.YtlmlbcnjohjnlaaDoor
open Go.RowKit Go.MapKept

/-- A sight. -/
structure PS where
  sel : Bool
  v : Int
  n : Int
  h : Int
  uids : List Int
  flags : List (List ByteArray)
  known : List Bool
/-- A list of one-cell things that came in. -/
def LisA (X : World) (v : Value) (cs : List Value) : Prop := ∃ a c, v = .slice a cs.length c ∧ cs.length ≤ 1000000 ∧ (0 < cs.length → ∃ g o, a = some ⟨g, o, none⟩ ∧ g < X.heap.size ∧ ∀ j u, cs[j]? = some u → X.cell? ⟨g, o + j, none⟩ = some u)
theorem LisA.on {X X' : World} {v : Value} {cs : List Value} (h : LisA X v cs) (hb : Below X.heap.size X X') : LisA X' v cs := by
  obtain ⟨a, c, e, hl, h⟩ := h
  refine ⟨a, c, e, hl, fun h0 => ?_⟩
  obtain ⟨g, o, e, hg, hc⟩ := h h0
  exact ⟨g, o, e, Nat.lt_of_lt_of_le hg hb.size, fun j u hj => by rw [hb.cell (p := ⟨g, o + j, none⟩) hg]; exact hc j u hj⟩
structure SiA (X : World) (us fl kn : Value) (s : PS) : Prop where
  u : LisA X us (s.uids.map (.int .i64))
  k : LisA X kn (s.known.map .bool)
  f : ∃ fvs, LisA X fl fvs ∧ All2 (fun fv (t : List ByteArray) => LisA X fv (t.map .string)) fvs s.flags
theorem SiA.on {X X' : World} {us fl kn : Value} {s : PS} (h : SiA X us fl kn s) (hb : Below X.heap.size X X') : SiA X' us fl kn s := by
  obtain ⟨fvs, h1, h2⟩ := h.f
  exact ⟨h.u.on hb, h.k.on hb, fvs, h1.on hb, h2.mono (fun _ _ r => r.on hb)⟩
theorem strs_copyA {X : World} {sv : Value} {l : List ByteArray} (h : LisA X sv (l.map .string)) : ∃ a c W1, (Builtin.append_ #[27, 27] 27 #[.slice none 0 0, sv]).run Tryd.prog X = .ok (.slice a l.length c) W1 ∧ Below X.heap.size X W1 ∧ StrsNew X.heap.size W1 (.slice a l.length c) l := by
  obtain ⟨ao, cap, rfl, hl, h⟩ := h
  rw [List.length_map] at hl h ⊢
  by_cases h0 : l.length = 0
  · obtain rfl := List.eq_nil_of_length_eq_zero h0
    exact ⟨none, 0, X, Tryd.nilAppS ao cap X, Below.refl _ _, StrsNew.nil _ _⟩
  obtain ⟨b, off, rfl, hb, hc⟩ := h (by omega)
  have hsrc : Src Tryd.prog 1 27 (.slice (some ⟨b, off, none⟩) l.length cap) l.length (l.map .string) X := Src.ofSlice _ Tryd.underlying27 _ _ _ _ (by simp) (fun j u hj => by
    rw [Addr.add_lit]
    exact hc j u hj) (fun u hu => by
    obtain ⟨p, _, rfl⟩ := List.mem_map.1 hu
    rfl)
  obtain ⟨a, c, W1, h1, h2, h3, h4⟩ := (show RowAt X 9 1 (.slice none 0 0) 0 [] from ⟨by simp, .inl ⟨rfl, rfl⟩⟩).appS (P := Tryd.prog) 27 27 27 _ 16 Tryd.underlying27 Tryd.infoS rfl _ l.length (l.map .string) hsrc (by omega) (by omega) (by omega)
  rw [Nat.zero_add, List.nil_append] at h2
  rw [Nat.zero_add] at h1 h4
  have hbel : Below X.heap.size X W1 := ⟨h3.os, h3.tape, h3.output, h3.size, fun k hk => h3.block k hk (fun e => by cases e)⟩
  refine ⟨a, c, W1, h1, hbel, ?_⟩
  rcases h2.2 with ⟨e, e0⟩ | ⟨g, o, cap', cur, e, hg, hcp, hs, htk⟩
  · omega
  · have ea : a = some ⟨g, o, none⟩ := by injection e
    subst ea
    refine ⟨[g], ⟨_, c, rfl, fun _ => ⟨g, o, cur, rfl, by simp, hg, fun i hi => ?_⟩⟩, fun b hb => ?_⟩
    · have : (cur.toList.drop o)[i]? = (l.map Value.string)[i]? := by
        rw [← htk, List.getElem?_take, if_pos (by omega)]
      rw [List.getElem?_drop] at this
      rw [show cur[o + i]? = cur.toList[o + i]? from by simp, this]
      simp [List.getD_eq_getElem?_getD, hi]
    · simp at hb
      subst hb
      rcases h4 b rfl with e' | e'
      · cases e'
      · exact ⟨e', _, _, hg⟩
def remS (s : PS) (k : Nat) (f : Int → Option (List ByteArray)) : Int → Option (List ByteArray) := fun x => if x = s.uids.getD k 0 then (if s.known.getD k false = true then some (s.flags.getD k []) else none) else f x
def remG (s : PS) : Nat → Int → Option (List ByteArray)
  | 0 => fun _ => none
  | j + 1 => remS s (s.uids.length - (j + 1)) (remG s j)
def remF (s : PS) : Int → Option (List ByteArray) := remG s s.uids.length
/-- All but k of them. -/
structure RI (w : World) (bx : Obj) (s : PS) (k : Nat) (X : World) : Prop where
  bel : Below w.heap.size w X
  box : X.heap[w.heap.size]? = some bx
  map : ∃ F clk, X.heap[w.heap.size + 1]? = some (mpI F clk) ∧ RM w.heap.size X F (remG s (s.uids.length - k))
theorem RI.turn {w : World} {cs : Array Value} {t : TypeId} {s : PS} {q : Nat} {X X2 : World} {F F' : List WE} {clk clk' : Nat} {f' : Int → Option (List ByteArray)} (h : RI w (.cells cs t (0, 0)) s (q + 1) X) (hb : Below X.heap.size X X2) (hm : X2.heap[w.heap.size + 1]? = some (mpI F clk)) (hr : RM w.heap.size (putObj X2 (w.heap.size + 1) (mpI F' clk')) F' f') (hf : f' = remS s q (remG s (s.uids.length - (q + 1)))) (hq : q < s.uids.length) : RI w (.cells cs t (0, 0)) s q (putObj X2 (w.heap.size + 1) (mpI F' clk')) := by
  have b2 := h.bel.trans (hb.mono h.bel.size)
  have bx2 := bel_at hb (lt_of_heap h.box) h.box
  refine ⟨⟨b2.os, b2.tape, b2.output, by rw [putObj_size]; exact b2.size, fun b hlt => by rw [putObj_ne _ (by omega)]; exact b2.block b hlt⟩, by rw [putObj_ne _ (by omega)]; exact bx2, F', clk', putObj_at _ (lt_of_heap hm), ?_⟩
  rw [show s.uids.length - q = (s.uids.length - (q + 1)) + 1 from by omega]
  show RM _ _ _ (remS s (s.uids.length - (s.uids.length - (q + 1) + 1)) (remG s (s.uids.length - (q + 1))))
  rw [show s.uids.length - (s.uids.length - (q + 1) + 1) = q from by omega, ← hf]
  exact hr
def RmO (s : PS) (w : World) (e : Ending) (w' : World) : Prop := ∃ m F clk, e = .returned (.map (some m)) ∧ w.heap.size ≤ m ∧ Below w.heap.size w w' ∧ w'.heap[m]? = some (mpI F clk) ∧ RM w.heap.size w' F (remF s)
set_option maxRecDepth 20000 in
set_option maxHeartbeats 4000000 in
theorem remembered_any (sel : Bool) (v nx h : Int) (us fl kn : Value) (s : PS) (w : World) (hs : SiA w us fl kn s) :
    Calls Tryd.prog 23 #[.agg #[.bool sel, .int .i64 v, .int .i64 nx, .int .i64 h, us, fl, kn]] w (RmO s w) := by
  obtain ⟨ua, uc, rfl, hul, huc⟩ := hs.u
  obtain ⟨ka, kc, rfl, hkl, hkc⟩ := hs.k
  obtain ⟨fvs, ⟨fa, fc, rfl, hfl, hfc⟩, hall⟩ := hs.f
  have hfe := hall.length
  rw [List.length_map] at hul huc hkl hkc ⊢
  rw [List.length_map]
  obtain ⟨n, hn⟩ : ∃ n, s.uids.length = n := ⟨_, rfl⟩
  obtain ⟨kn, hkn⟩ : ∃ n, s.known.length = n := ⟨_, rfl⟩
  obtain ⟨fn, hfn⟩ : ∃ n, fvs.length = n := ⟨_, rfl⟩
  rw [hn] at hul huc ⊢
  rw [hkn] at hkl hkc ⊢
  rw [hfn] at hfl hfc hfe ⊢
  obtain ⟨Y, hY⟩ : ∃ Y, (w.alloc (.cells #[.bool sel, .int .i64 v, .int .i64 nx, .int .i64 h, .slice ua n uc, .slice fa fn fc, .slice ka kn kc] 47)).alloc (.map #[] 0) = Y := ⟨_, rfl⟩
  have q2 := two_below w (.cells #[.bool sel, .int .i64 v, .int .i64 nx, .int .i64 h, .slice ua n uc, .slice fa fn fc, .slice ka kn kc] 47) (.map #[] 0)
  rw [hY] at q2
  have r0 : Y.heap[w.heap.size]? = some (.cells #[.bool sel, .int .i64 v, .int .i64 nx, .int .i64 h, .slice ua n uc, .slice fa fn fc, .slice ka kn kc] 47 (0, 0)) := by rw [← hY, Below.heap_alloc _ _ _ (by simp)]; exact heap_new _ _
  have r1 : Y.heap[w.heap.size + 1]? = some (.map #[] 0) := by rw [← hY]; have := heap_new (w.alloc (.cells #[.bool sel, .int .i64 v, .int .i64 nx, .int .i64 h, .slice ua n uc, .slice fa fn fc, .slice ka kn kc] 47)) (.map #[] 0); rw [show (w.alloc (.cells #[.bool sel, .int .i64 v, .int .i64 nx, .int .i64 h, .slice ua n uc, .slice fa fn fc, .slice ka kn kc] 47)).heap.size = w.heap.size + 1 from by simp] at this; exact this
  have hst : RI w (.cells #[.bool sel, .int .i64 v, .int .i64 nx, .int .i64 h, .slice ua n uc, .slice fa fn fc, .slice ka kn kc] 47 (0, 0)) s n Y := ⟨q2, r0, [], 0, r1, ⟨List.Pairwise.nil, fun e he => by (cases he), fun u _ => by rw [hn, Nat.sub_self]; rfl⟩⟩
  have HX : Hid (∀ X, Below w.heap.size w X → X.heap[w.heap.size]? = some (.cells #[.bool sel, .int .i64 v, .int .i64 nx, .int .i64 h, .slice ua n uc, .slice fa fn fc, .slice ka kn kc] 47 (0, 0)) → X.cell? ⟨w.heap.size, 4, none⟩ = some (.slice ua n uc) ∧ X.cell? ⟨w.heap.size, 5, none⟩ = some (.slice fa fn fc) ∧ X.cell? ⟨w.heap.size, 6, none⟩ = some (.slice ka kn kc)) := Lib.hid (fun X _ hX => ⟨cell_of hX 4, cell_of hX 5, cell_of hX 6⟩)
  have HU : Hid (∀ X, Below w.heap.size w X → ∀ q, q < n → ∃ g o, ua = some ⟨g, o, none⟩ ∧ ∃ u, s.uids.getD q 0 = u ∧ X.cell? ⟨g, o + q, none⟩ = some (.int .i64 u)) := Lib.hid (fun X hX q hq => by
    obtain ⟨g, o, e, hg, hc⟩ := huc (by omega)
    refine ⟨g, o, e, _, rfl, ?_⟩
    rw [hX.cell (p := ⟨g, o + q, none⟩) hg]
    refine hc q _ ?_
    rw [List.getElem?_map, List.getD_eq_getElem?_getD, List.getElem?_eq_getElem (by omega)]
    rfl)
  have HKn : Hid (∀ X, Below w.heap.size w X → ∀ q, q < kn → ∃ g o, ka = some ⟨g, o, none⟩ ∧ ∃ b, s.known.getD q false = b ∧ X.cell? ⟨g, o + q, none⟩ = some (.bool b)) := Lib.hid (fun X hX q hq => by
    obtain ⟨g, o, e, hg, hc⟩ := hkc (by omega)
    refine ⟨g, o, e, _, rfl, ?_⟩
    rw [hX.cell (p := ⟨g, o + q, none⟩) hg]
    refine hc q _ ?_
    rw [List.getElem?_map, List.getD_eq_getElem?_getD, List.getElem?_eq_getElem (by omega)]
    rfl)
  have HKo : Hid (∀ q, ¬ q < kn → s.known.getD q false = false) := Lib.hid (fun q hq => by rw [List.getD_eq_getElem?_getD, List.getElem?_eq_none (by omega)]; rfl)
  have HFo : Hid (∀ q, ¬ q < fn → s.flags.getD q [] = []) := Lib.hid (fun q hq => by rw [List.getD_eq_getElem?_getD, List.getElem?_eq_none (by omega)]; rfl)
  have HFl : Hid (∀ X, Below w.heap.size w X → ∀ q, q < fn → ∃ g o, fa = some ⟨g, o, none⟩ ∧ ∃ ta tn tc, X.cell? ⟨g, o + q, none⟩ = some (.slice ta tn tc) ∧ LisA X (.slice ta tn tc) ((s.flags.getD q []).map .string)) := Lib.hid (fun X hX q hq => by
    obtain ⟨g, o, e, hg, hc⟩ := hfc (by omega)
    have hfv : fvs[q]? = some (fvs[q]'(by omega)) := List.getElem?_eq_getElem _
    obtain ⟨t, ht, hl⟩ := hall.get q _ hfv
    have hl2 := hl
    obtain ⟨ta, tc, he, _⟩ := hl2
    refine ⟨g, o, e, ta, (t.map Value.string).length, tc, ?_, ?_⟩
    · rw [hX.cell (p := ⟨g, o + q, none⟩) hg, ← he]
      exact hc q _ hfv
    · rw [show s.flags.getD q [] = t from by rw [List.getD_eq_getElem?_getD, ht]; rfl, ← he]
      exact hl.on hX)
  have HN := Lib.hid (And.intro hn hul)
  have HST := Lib.hid hst
  have HY := Lib.hid hY
  have hnb : (n : Int) ≤ 1000000 := by omega
  clear hs hul huc hkl hkc hfl hfc hall hfe q2 r0 r1 hst hY hkn hfn hn
  have hmm := @run_makeMap Tryd.prog
  go_enter Tryd.func23, Tryd.ntmps23
  go_upto_region 2 with fail
  rw [HY.out]
  clear HY
  obtain ⟨x4, x5, x6⟩ := HX.out Y HST.out.bel HST.out.box
  go_wp2_with fail
  clear x4 x5 x6
  go_loopw [4] (fun x wr => ∃ (k : Nat) (X : World), X = wr ∧ x = .int .i64 ((k : Int) - 1) ∧ k ≤ n ∧ RI w (.cells #[.bool sel, .int .i64 v, .int .i64 nx, .int .i64 h, .slice ua n uc, .slice fa fn fc, .slice ka kn kc] 47 (0, 0)) s k X) (fun x _ => (intOf x + 1).toNat)
  case atStart => exact ⟨n, _, rfl, by go_num, Nat.le_refl _, HST.out⟩
  case round =>
    obtain ⟨k, X, rfl, rfl, hk, hG⟩ := hrel
    have HG := Lib.hid hG
    clear hG
    by_cases hlt : 0 < k
    · obtain ⟨q, rfl⟩ : ∃ q, k = q + 1 := ⟨k - 1, by omega⟩
      rw [show ((q + 1 : Nat) : Int) - 1 = (q : Int) from by omega]
      have hq0 : (0 : Int) ≤ (q : Int) := by omega
      have hqn : (q : Int) < (n : Int) := by omega
      have hqn2 : q < n := by omega
      obtain ⟨x4, x5, x6⟩ := HX.out X HG.out.bel HG.out.box
      obtain ⟨gu, ou, rfl, u, hu, cu⟩ := HU.out X HG.out.bel q hqn2
      have HUq := Lib.hid hu
      clear hu hlt
      obtain ⟨F, clk, hmap, hrm⟩ := HG.out.map
      have HQ : Hid (q < s.uids.length) := Lib.hid (by rw [HN.out.1]; exact hqn2)
      by_cases hkq : q < kn
      · have hkqi : (q : Int) < (kn : Int) := by omega
        have hkqn : ¬ (kn : Int) ≤ (q : Int) := by omega
        obtain ⟨gk, ok, rfl, b, hb, cb⟩ := HKn.out X HG.out.bel q hkq
        cases b with
        | false =>
          obtain ⟨F', clk', hdel, hr⟩ := rm_del hmap hrm u
          have HDl := Lib.hid hdel
          have HNx : Hid (RI w (.cells #[.bool sel, .int .i64 v, .int .i64 nx, .int .i64 h, .slice (some ⟨gu, ou, none⟩) n uc, .slice fa fn fc, .slice (some ⟨gk, ok, none⟩) kn kc] 47 (0, 0)) s q (putObj X (w.heap.size + 1) (mpI F' clk'))) := Lib.hid (HG.out.turn (Below.refl _ _) hmap hr (by funext x; simp only [remS, hb, HUq.out]; simp) HQ.out)
          clear hdel hr hmap hrm hb
          go_wp2_with (at_delete; refine delete_by_run rfl _ _ _ rfl _ _ rfl rfl _ _ (HDl.out _) ?_)
          go_roundw
          case rel => exact ⟨q, _, rfl, by go_num, by omega, HNx.out⟩
          case measure => simp [intOf]
        | true =>
          by_cases hfq : q < fn
          · have hfqi : (q : Int) < (fn : Int) := by omega
            have hfqn : ¬ (fn : Int) ≤ (q : Int) := by omega
            obtain ⟨gf, of, rfl, ta, tn, tc, cf, hl⟩ := HFl.out X HG.out.bel q hfq
            obtain ⟨a', c', W1, hrun, hbw, hsn⟩ := strs_copyA hl
            obtain ⟨m', hm'⟩ : ∃ m', (s.flags.getD q []).length = m' := ⟨_, rfl⟩
            rw [hm'] at hrun hsn
            have hmap1 := bel_at hbw (lt_of_heap hmap) hmap
            have hrm1 := hrm.ks (KeepS.below hbw)
            obtain ⟨F', clk', hput, hr⟩ := rm_put hmap1 hrm1 u (.slice a' m' c') _ (hsn.low HG.out.bel.size)
            have HNx : Hid (RI w (.cells #[.bool sel, .int .i64 v, .int .i64 nx, .int .i64 h, .slice (some ⟨gu, ou, none⟩) n uc, .slice (some ⟨gf, of, none⟩) fn fc, .slice (some ⟨gk, ok, none⟩) kn kc] 47 (0, 0)) s q (putObj W1 (w.heap.size + 1) (mpI F' clk'))) := Lib.hid (HG.out.turn hbw hmap1 hr (by funext x; simp only [remS, hb, HUq.out]; simp) HQ.out)
            have HRun := Lib.hid hrun
            clear hr hmap hrm hb hl hrun hbw hsn hmap1 hrm1 hm'
            go_wp2_with (first | (refine append_by_run rfl _ _ _ rfl _ rfl _ _ rfl rfl _ _ HRun.out ?_))
            go_roundw
            case rel => exact ⟨q, _, rfl, by go_num, by omega, HNx.out⟩
            case measure => simp [intOf]
          · have hfqn : (fn : Int) ≤ (q : Int) := by omega
            obtain ⟨F', clk', hput, hr⟩ := rm_put hmap hrm u (.slice none 0 0) [] (StrsNew.nil _ _)
            have HNx : Hid (RI w (.cells #[.bool sel, .int .i64 v, .int .i64 nx, .int .i64 h, .slice (some ⟨gu, ou, none⟩) n uc, .slice fa fn fc, .slice (some ⟨gk, ok, none⟩) kn kc] 47 (0, 0)) s q (putObj X (w.heap.size + 1) (mpI F' clk'))) := Lib.hid (HG.out.turn (Below.refl _ _) hmap hr (by funext x; simp only [remS, hb, HUq.out, HFo.out q hfq]; simp) HQ.out)
            clear hr hmap hrm hb
            go_wp2_with fail
            go_roundw
            case rel => exact ⟨q, _, rfl, by go_num, by omega, HNx.out⟩
            case measure => simp [intOf]
      · have hkqn : (kn : Int) ≤ (q : Int) := by omega
        obtain ⟨F', clk', hdel, hr⟩ := rm_del hmap hrm u
        have HDl := Lib.hid hdel
        have HNx : Hid (RI w (.cells #[.bool sel, .int .i64 v, .int .i64 nx, .int .i64 h, .slice (some ⟨gu, ou, none⟩) n uc, .slice fa fn fc, .slice ka kn kc] 47 (0, 0)) s q (putObj X (w.heap.size + 1) (mpI F' clk'))) := Lib.hid (HG.out.turn (Below.refl _ _) hmap hr (by funext x; simp only [remS, HKo.out q hkq, HUq.out]; simp) HQ.out)
        clear hdel hr hmap hrm
        go_wp2_with (at_delete; refine delete_by_run rfl _ _ _ rfl _ _ rfl rfl _ _ (HDl.out _) ?_)
        go_roundw
        case rel => exact ⟨q, _, rfl, by go_num, by omega, HNx.out⟩
        case measure => simp [intOf]
    · obtain rfl : k = 0 := by omega
      have hneg : ((0 : Nat) : Int) - 1 = -1 := by omega
      rw [hneg]
      clear hneg
      go_wp2_with fail
      go_ret
      obtain ⟨F, clk, hmap, hrm⟩ := HG.out.map
      exact ⟨_, F, clk, rfl, by omega, HG.out.bel, hmap, hrm⟩
end Go.Proofs.YtlmlbcnjohjnlaaDoor
