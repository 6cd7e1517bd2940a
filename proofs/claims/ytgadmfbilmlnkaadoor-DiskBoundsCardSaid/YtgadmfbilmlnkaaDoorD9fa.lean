/- errors.As of a Fail, at a target of its own type. -/
import Derived.Test.YtgadmfbilmlnkaaDoorD9e
namespace Go.Proofs.YtgadmfbilmlnkaaDoor
open Go.RowKit Go.Extern.Stop Go.Stop Go.Extern

def rtV (t : TypeId) : Value := .iface 109 (.agg #[.pointer (some ⟨6, t, none⟩)])
def asVal (a : Addr) : Value := .agg #[.pointer (some ⟨6, 93, none⟩), .pointer (some a), .int .u64 150]
def asSrc (a : Addr) : Value := .agg #[.pointer (some ⟨6, 91, none⟩), .pointer (some a), .int .u64 150]
def asDst (a : Addr) : Value := .agg #[.pointer (some ⟨6, 91, none⟩), .pointer (some a), .int .u64 406]
abbrev kindX : Array Value → Sem Value := ReflectliteType.abiMethod fun t => do pure (.int .u8 (← Rtype.kind t))
abbrev nilX : Array Value → Sem Value := ReflectliteValue.method (ReflectliteValue.valueError "reflectlite.Value.IsNil" 0) ReflectliteValue.isNil
abbrev elemX : Array Value → Sem Value := ReflectliteValue.method (ReflectliteValue.valueError "reflectlite.Value.Elem" 0) ReflectliteValue.elem
theorem as_of (t : Addr) (w : World) : (ReflectliteValue.unpack (.iface 93 (.pointer (some t)))).run Tryd.prog w = .ok (asVal ⟨w.heap.size, 0, none⟩) (w.alloc (.cells #[.pointer (some t)] 93)) := by kernel_rfl
theorem as_src (e : Addr) (w : World) : (ReflectliteValue.unpack (.iface 91 (.pointer (some e)))).run Tryd.prog w = .ok (asSrc ⟨w.heap.size, 0, none⟩) (w.alloc (.cells #[.pointer (some e)] 91)) := by kernel_rfl
theorem as_type (a : Addr) (w : World) : (ReflectliteValue.methodAny (ReflectliteValue.valueError "reflectlite.Value.Type" 0) (fun t _ _ _ => ReflectliteType.toType t) #[asVal a]).run Tryd.prog w = .ok (rtV 93) w := by kernel_rfl
theorem as_mKind (v : Value) (w : World) : (Go.method 296 109 (.agg #[v]) "Kind").run Tryd.prog w = .ok (119, v) w := by kernel_rfl
theorem as_mElem (v : Value) (w : World) : (Go.method 296 109 v "Elem").run Tryd.prog w = .ok (127, v) w := by kernel_rfl
theorem as_mImp (v : Value) (w : World) : (Go.method 296 109 v "Implements").run Tryd.prog w = .ok (128, v) w := by kernel_rfl
theorem as_mTo (v : Value) (w : World) : (Go.method 296 109 v "AssignableTo").run Tryd.prog w = .ok (125, v) w := by kernel_rfl
theorem as_kind2 (w : World) : (kindX #[.pointer (some ⟨6, 93, none⟩)]).run Tryd.prog w = .ok (.int .u8 22) w := by kernel_rfl
theorem as_kind1 (w : World) : (kindX #[.pointer (some ⟨6, 91, none⟩)]).run Tryd.prog w = .ok (.int .u8 22) w := by kernel_rfl
theorem as_elem (w : World) : (ReflectliteType.method ReflectliteType.elem #[.agg #[.pointer (some ⟨6, 93, none⟩)]]).run Tryd.prog w = .ok (rtV 91) w := by kernel_rfl
theorem as_imp (w : World) : (ReflectliteType.relation "Implements" ReflectliteType.implements_ #[.agg #[.pointer (some ⟨6, 91, none⟩)], rtV 25]).run Tryd.prog w = .ok (.bool true) w := by kernel_rfl
theorem as_typeOf (v : Value) (w : World) : (ReflectliteType.typeOf #[.iface 91 v]).run Tryd.prog w = .ok (rtV 91) w := by kernel_rfl
theorem as_to (w : World) : (ReflectliteType.relation "AssignableTo" ReflectliteType.assignableTo #[.agg #[.pointer (some ⟨6, 91, none⟩)], rtV 91]).run Tryd.prog w = .ok (.bool true) w := by kernel_rfl
theorem as_p2 (a : Addr) (w : World) : (ReflectliteValue.parts (asVal a)).run Tryd.prog w = .ok (some (93, a, 150)) w := by kernel_rfl
theorem as_p1 (a : Addr) (w : World) : (ReflectliteValue.parts (asSrc a)).run Tryd.prog w = .ok (some (91, a, 150)) w := by kernel_rfl
theorem as_p3 (a : Addr) (w : World) : (ReflectliteValue.parts (asDst a)).run Tryd.prog w = .ok (some (91, a, 406)) w := by kernel_rfl
theorem as_el (w : World) : (Rtype.elem? 93).run Tryd.prog w = .ok (some 91) w := by kernel_rfl
theorem as_mk (p : Addr) (w : World) : (ReflectliteValue.mk 91 p ReflectliteValue.flagAddr).run Tryd.prog w = .ok (asDst p) w := by kernel_rfl
theorem as_dir (w : World) : (Rtype.directlyAssignable 91 91).run Tryd.prog w = .ok true w := by kernel_rfl
theorem as_isNil (a p : Addr) (W : World) (ha : W.cell? a = some (.pointer (some p))) : (nilX #[asVal a]).run Tryd.prog W = .ok (.bool false) W := by
  have h := as_p2 a W
  unfold nilX ReflectliteValue.method
  delta ReflectliteValue.method.match_2
  simp [Array.getLit, Sem.run_bind, h, Result.andThen, ReflectliteValue.isNil, loadVar, isAgg, underlying, Tryd.underlying93, ha]
theorem as_elV (a p : Addr) (W : World) (ha : W.cell? a = some (.pointer (some p))) : (elemX #[asVal a]).run Tryd.prog W = .ok (asDst p) W := by
  have h := as_p2 a W
  unfold elemX ReflectliteValue.method
  delta ReflectliteValue.method.match_2
  simp [Array.getLit, Sem.run_bind, h, Result.andThen, ReflectliteValue.elem, loadVar, isAgg, underlying, Tryd.underlying93, ha, as_el, as_mk]
theorem as_set (ta b e : Addr) (old : Value) (W : World) (hb : W.cell? b = some (.pointer (some e))) (ht : W.cell? ta = some old) (hf : W.frozen? ta = false) :
    (ReflectliteValue.set #[asDst ta, asSrc b]).run Tryd.prog W = .ok (.tuple #[]) (W.setCell ta (.pointer (some e))) := by
  have h1 := as_p3 ta W
  have h2 := as_p1 b W
  unfold ReflectliteValue.set
  delta ReflectliteValue.set.match_3
  simp [Array.getLit, Sem.run_bind, h1, h2, Result.andThen, ReflectliteValue.flagAddr, loadVar, isAgg, underlying, Tryd.underlying91, hb, as_dir, storeVar, Value.cells, storeCells, Addr.add]
  rw [run_store Tryd.prog W ta _ _ (by rfl)]
  simp [ht, hf]
end Go.Proofs.YtgadmfbilmlnkaaDoor

/- errors.As of a Fail. -/
namespace Go.Proofs.YtgadmfbilmlnkaaDoor
open Go.RowKit Go.Extern.Stop Go.Stop Go.Extern

set_option maxHeartbeats 4000000 in
theorem as_hit (e t : Addr) (old : Value) (w : World) (hg : w.cell? ⟨2, 0, none⟩ = some (rtV 25)) (ht0 : w.cell? t = some old) (hf0 : w.frozen? t = false) :
    Calls Tryd.prog 56 #[.iface 91 (.pointer (some e)), .iface 93 (.pointer (some t))] w fun ev w' => ev = .returned (.bool true) ∧ ∃ W, Below w.heap.size w W ∧ w' = W.setCell t (.pointer (some e)) := by
  have h6 := @run_callFunc_extern Tryd.prog 75 _ (fun args => ReflectliteValue.unpack (args.getD 0 (.tuple #[]))) Tryd.func75 (by kernel_rfl) (by kernel_rfl) (by kernel_rfl) (by kernel_rfl)
  have h7 := @run_callFunc_extern Tryd.prog 76 _ (ReflectliteValue.methodAny (ReflectliteValue.valueError "reflectlite.Value.Type" 0) (fun t _ _ _ => ReflectliteType.toType t)) Tryd.func76 (by kernel_rfl) (by kernel_rfl) (by kernel_rfl) (by kernel_rfl)
  have h8 := @run_callFunc_extern Tryd.prog 77 _ (nilX) Tryd.func77 (by kernel_rfl) (by kernel_rfl) (by kernel_rfl) (by kernel_rfl)
  have h9 := @run_callFunc_extern Tryd.prog 119 _ (kindX) Tryd.func119 (by kernel_rfl) (by kernel_rfl) (by kernel_rfl) (by kernel_rfl)
  have h10 := @run_callFunc_extern Tryd.prog 127 _ (ReflectliteType.method ReflectliteType.elem) Tryd.func127 (by kernel_rfl) (by kernel_rfl) (by kernel_rfl) (by kernel_rfl)
  have h11 := @run_callFunc_extern Tryd.prog 128 _ (ReflectliteType.relation "Implements" ReflectliteType.implements_) Tryd.func128 (by kernel_rfl) (by kernel_rfl) (by kernel_rfl) (by kernel_rfl)
  have h12 := @run_callFunc_extern Tryd.prog 49 _ (ReflectliteType.typeOf) Tryd.func49 (by kernel_rfl) (by kernel_rfl) (by kernel_rfl) (by kernel_rfl)
  have h13 := @run_callFunc_extern Tryd.prog 125 _ (ReflectliteType.relation "AssignableTo" ReflectliteType.assignableTo) Tryd.func125 (by kernel_rfl) (by kernel_rfl) (by kernel_rfl) (by kernel_rfl)
  have h14 := @run_callFunc_extern Tryd.prog 94 _ (elemX) Tryd.func94 (by kernel_rfl) (by kernel_rfl) (by kernel_rfl) (by kernel_rfl)
  have h15 := @run_callFunc_extern Tryd.prog 95 _ (ReflectliteValue.set) Tryd.func95 (by kernel_rfl) (by kernel_rfl) (by kernel_rfl) (by kernel_rfl)
  have f0 := as_of
  have f1 := as_src
  have f2 := as_type
  have f3 := as_mKind
  have f4 := as_mElem
  have f5 := as_mImp
  have f6 := as_mTo
  have f7 := as_kind2
  have f8 := as_kind1
  have f9 := as_elem
  have f10 := as_imp
  have f11 := as_typeOf
  have f12 := as_to
  have hlt : 2 < w.heap.size := World.block_lt_of_cell? w _ hg
  have htl : t.block < w.heap.size := World.block_lt_of_cell? w _ ht0
  have hb4 : Below w.heap.size w ((((w.alloc (.cells #[.pointer (some t)] 93)).alloc (.cells #[.pointer (some ⟨6, 93, none⟩), .pointer (some ⟨w.heap.size, 0, none⟩), .int .u64 150] 126)).alloc (.cells #[.pointer (some ⟨6, 93, none⟩), .pointer (some ⟨w.heap.size, 0, none⟩), .int .u64 150] 126)).alloc (.cells #[.pointer (some e)] 91)) := (((((Below.refl _ w).alloc (Nat.le_refl _) _).alloc (by simp) _).alloc (by simp; omega) _).alloc (by simp; omega) _)
  have hg2 : ((w.alloc (.cells #[.pointer (some t)] 93)).alloc (.cells #[.pointer (some ⟨6, 93, none⟩), .pointer (some ⟨w.heap.size, 0, none⟩), .int .u64 150] 126)).cell? ⟨2, 0, none⟩ = some (rtV 25) := by
    rw [World.cell?_alloc_lt _ _ ⟨_, 0, none⟩ (by simp; omega), World.cell?_alloc_lt _ _ ⟨_, 0, none⟩ hlt]; exact hg
  have n8 := as_isNil ⟨w.heap.size, 0, none⟩ t ((w.alloc (.cells #[.pointer (some t)] 93)).alloc (.cells #[.pointer (some ⟨6, 93, none⟩), .pointer (some ⟨w.heap.size, 0, none⟩), .int .u64 150] 126)) (by simp)
  have el := as_elV ⟨w.heap.size, 0, none⟩ t (((w.alloc (.cells #[.pointer (some t)] 93)).alloc (.cells #[.pointer (some ⟨6, 93, none⟩), .pointer (some ⟨w.heap.size, 0, none⟩), .int .u64 150] 126)).alloc (.cells #[.pointer (some ⟨6, 93, none⟩), .pointer (some ⟨w.heap.size, 0, none⟩), .int .u64 150] 126)) (by rw [World.cell?_alloc_lt _ _ ⟨w.heap.size, 0, none⟩ (by simp; omega)]; simp)
  have st := as_set t ⟨w.heap.size + 1 + 1 + 1, 0, none⟩ e old ((((w.alloc (.cells #[.pointer (some t)] 93)).alloc (.cells #[.pointer (some ⟨6, 93, none⟩), .pointer (some ⟨w.heap.size, 0, none⟩), .int .u64 150] 126)).alloc (.cells #[.pointer (some ⟨6, 93, none⟩), .pointer (some ⟨w.heap.size, 0, none⟩), .int .u64 150] 126)).alloc (.cells #[.pointer (some e)] 91)) (by rw [World.cell?_alloc_at _ _ _ _ (by simp)]; rfl)
    (by rw [World.cell?_of_block (hb4.block _ htl)]; exact ht0) (by rw [World.frozen?_of_block (hb4.block _ htl)]; exact hf0)
  have HB := Lib.hid hb4
  clear hb4
  unfold rtV asVal asSrc asDst at *
  go_enter Tryd.func56, Tryd.ntmps56
  go_wp2
  refine wp_loop_rounds 1 ?_
  rw [rounds_succ]
  go_wp2
  go_ret
  exact ⟨rfl, _, HB.out, rfl⟩
end Go.Proofs.YtgadmfbilmlnkaaDoor
